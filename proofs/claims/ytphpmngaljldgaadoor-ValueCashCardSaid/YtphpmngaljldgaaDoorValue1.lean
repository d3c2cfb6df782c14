/-
  priceOf, isOwn, Counts, Of.
-/
import Derived.Test.YtphpmngaljldgaaDoorValueMath
import Derived.Test.YtphpmngaljldgaaDoorAssetLaw
import Derived.Test.YtphpmngaljldgaaDoorMoney
import Derived.Test.YtphpmngaljldgaaDoorMoneyLaw
import Derived.Test.YtphpmngaljldgaaDoorMem
import Derived.Outline
namespace Go.Proofs.YtphpmngaljldgaaDoor
open Go.RowKit
set_option linter.unusedVariables false

abbrev tmTy : TypeId := 25
abbrev stTy : TypeId := 28
abbrev tmO (t : TypeId) (y : Tm) : Obj := .cells #[.int .i64 y.t, .int .i64 y.o, .bool y.n, .int .i64 y.p, .int .i64 y.r, .int .i64 y.c] t
abbrev stO (t : TypeId) (s : StT) : Obj := .cells #[.int .i64 s.w, .int .i64 s.b, .int .i64 s.v] t
/-- terms in block g. -/
structure TmAt (w : World) (g : Nat) (t : TypeId) (y : Tm) : Prop where
  row : w.heap[g]? = some (tmO t y)
theorem TmAt.below {w w' : World} {g : Nat} {t : TypeId} {y : Tm} (h : TmAt w g t y) (hb : Below w.heap.size w w') : TmAt w' g t y := ⟨by rw [hb.block _ (Array.getElem?_eq_some_iff.1 h.row).1]; exact h.row⟩
theorem TmAt.cells {w : World} {g : Nat} {t : TypeId} {y : Tm} (h : TmAt w g t y) : w.cell? ⟨g, 0, none⟩ = some (.int .i64 y.t) ∧ w.cell? ⟨g, 1, none⟩ = some (.int .i64 y.o) ∧ w.cell? ⟨g, 2, none⟩ = some (.bool y.n) ∧ w.cell? ⟨g, 3, none⟩ = some (.int .i64 y.p) ∧ w.cell? ⟨g, 4, none⟩ = some (.int .i64 y.r) ∧ w.cell? ⟨g, 5, none⟩ = some (.int .i64 y.c) := by
  refine ⟨?_, ?_, ?_, ?_, ?_, ?_⟩ <;> (rw [cell_of_row _ _ _ _ _ _ h.row]; rfl)
theorem tmAt_new (w : World) (t : TypeId) (y : Tm) : TmAt (w.alloc (tmO t y)) w.heap.size t y := ⟨heap_alloc_new w _⟩
/-- steps in block g. -/
structure StAt (w : World) (g : Nat) (t : TypeId) (s : StT) : Prop where
  row : w.heap[g]? = some (stO t s)
theorem StAt.below {w w' : World} {g : Nat} {t : TypeId} {s : StT} (h : StAt w g t s) (hb : Below w.heap.size w w') : StAt w' g t s := ⟨by rw [hb.block _ (Array.getElem?_eq_some_iff.1 h.row).1]; exact h.row⟩
theorem StAt.cells {w : World} {g : Nat} {t : TypeId} {s : StT} (h : StAt w g t s) : w.cell? ⟨g, 0, none⟩ = some (.int .i64 s.w) ∧ w.cell? ⟨g, 1, none⟩ = some (.int .i64 s.b) ∧ w.cell? ⟨g, 2, none⟩ = some (.int .i64 s.v) := by
  refine ⟨?_, ?_, ?_⟩ <;> (rw [cell_of_row _ _ _ _ _ _ h.row]; rfl)
theorem stAt_new (w : World) (t : TypeId) (s : StT) : StAt (w.alloc (stO t s)) w.heap.size t s := ⟨heap_alloc_new w _⟩
theorem StAt.put {w : World} {g : Nat} {t : TypeId} {s : StT} (h : StAt w g t s) (x : StT) : StAt (((w.setCell ⟨g, 0, none⟩ (.int .i64 x.w)).setCell ⟨g, 1, none⟩ (.int .i64 x.b)).setCell ⟨g, 2, none⟩ (.int .i64 x.v)) g t x := by
  refine ⟨?_⟩
  rw [heap_setCell_row (heap_setCell_row (heap_setCell_row h.row _) _) _]
  rfl
theorem StAt.frozen {w : World} {g : Nat} {t : TypeId} {s : StT} (h : StAt w g t s) (j : Nat) : w.frozen? ⟨g, j, none⟩ = false := by
  have := h.row
  simp [World.frozen?, this]
/-- an asset and terms, side by side. -/
structure Two15 (w : World) (g : Nat) (t : TypeId) (a : As) (y : Tm) : Prop where
  a : AsAt w g a
  y : TmAt w (g + 1) t y
theorem Two15.below {w w' : World} {g : Nat} {t : TypeId} {a : As} {y : Tm} (h : Two15 w g t a y) (hb : Below w.heap.size w w') : Two15 w' g t a y := ⟨h.a.below hb, h.y.below hb⟩
theorem two15_new (w : World) (t : TypeId) (a : As) (y : Tm) : Two15 ((w.alloc (asO a)).alloc (tmO t y)) w.heap.size t a y ∧ Below w.heap.size w ((w.alloc (asO a)).alloc (tmO t y)) := by
  have h1 := asAt_new w a
  have h2 := tmAt_new (w.alloc (asO a)) t y
  simp only [World.size_alloc] at h2
  exact ⟨⟨h1.below ((Below.refl _ _).alloc (Nat.le_refl _) _), h2⟩, (below_as w a).alloc (by simp) _⟩
/-- .. and steps. -/
structure Three15 (w : World) (g : Nat) (t u : TypeId) (a : As) (y : Tm) (s : StT) : Prop where
  a : AsAt w g a
  y : TmAt w (g + 1) t y
  s : StAt w (g + 1 + 1) u s
theorem Three15.below {w w' : World} {g : Nat} {t u : TypeId} {a : As} {y : Tm} {s : StT} (h : Three15 w g t u a y s) (hb : Below w.heap.size w w') : Three15 w' g t u a y s := ⟨h.a.below hb, h.y.below hb, h.s.below hb⟩
theorem Three15.drewN {w : World} {g : Nat} {t u : TypeId} {a : As} {y : Tm} {s : StT} (h : Three15 w g t u a y s) (k : Nat) : Three15 (w.drewN k) g t u a y s := ⟨⟨h.a.row⟩, ⟨h.y.row⟩, ⟨h.s.row⟩⟩
theorem below_put15 {w w' : World} {g : Nat} (h : Below w.heap.size w w') (hg : w.heap.size ≤ g) (x y z : Value) : Below w.heap.size w (((w'.setCell ⟨g, 0, none⟩ x).setCell ⟨g, 1, none⟩ y).setCell ⟨g, 2, none⟩ z) :=
  ((h.setCell hg x).setCell hg y).setCell hg z
theorem below_set15 {w w' : World} {g : Nat} (h : Below w.heap.size w w') (hg : w.heap.size ≤ g) (o : Nat) (v : Value) : Below w.heap.size w (w'.setCell ⟨g, o, none⟩ v) := h.setCell hg v
theorem three15_new (w : World) (t u : TypeId) (a : As) (y : Tm) (s : StT) : Three15 (((w.alloc (asO a)).alloc (tmO t y)).alloc (stO u s)) w.heap.size t u a y s ∧ Below w.heap.size w (((w.alloc (asO a)).alloc (tmO t y)).alloc (stO u s)) := by
  obtain ⟨⟨h1, h2⟩, h3⟩ := two15_new w t a y
  have h4 := stAt_new ((w.alloc (asO a)).alloc (tmO t y)) u s
  simp only [World.size_alloc] at h4
  have h5 : Below ((w.alloc (asO a)).alloc (tmO t y)).heap.size ((w.alloc (asO a)).alloc (tmO t y)) (((w.alloc (asO a)).alloc (tmO t y)).alloc (stO u s)) := (Below.refl _ _).alloc (Nat.le_refl _) _
  exact ⟨⟨h1.below h5, h2.below h5, h4⟩, h3.alloc h3.size _⟩
theorem st_size : (Tryd.prog.info? stTy).map (·.size) = some 3 := by kernel_rfl
theorem st_end {a : Act} {w : World} {fn : Func} {R : Ending → World → Prop} {p u : Tmp} {g : Nat} {x : StT} {vb : Value}
    (h : fn.results = #[.cell p stTy, .tmp u]) (hd : a.defers = []) (hp : a.tmps.getD p undef = .pointer (some ⟨g, 0, none⟩)) (hb : a.tmps.getD u undef = vb) (hg : StAt w g stTy x)
    (hR : R (.returned (.tuple #[vsA x, vb])) w) : bodyPost Tryd.prog fn R .ret a w := by
  subst hb
  exact bodyPost_ret (results_cell2 h _ _ _ _ _ _ _ hp hg.row Tryd.underlying28 rfl st_size) hd hR

theorem price_any (a : As) (p : Int) (w : World) : Calls Tryd.prog 16 #[asA a, .int .i64 p] w fun e w' => e = .returned (.int .i64 (prV a p)) ∧ Below w.heap.size w w' := by
  have hb0 := hidden (fun w' (h : Below (w.alloc (asO a)).heap.size (w.alloc (asO a)) w') => (below_as w a).trans (h.mono (below_as w a).size))
  have hc := hidden (fun w => cash_any a w)
  have hw : ((a.c == 1) = true ∧ prV a p = 10000) ∨ ((a.c == 1) = false ∧ prV a p = p) := by
    unfold prV
    by_cases h : a.c = 1
    · exact .inl ⟨by simpa using h, if_pos h⟩
    · exact .inr ⟨by simpa using h, if_neg h⟩
  generalize prV a p = r at *
  obtain ⟨i, s, c, m, e⟩ := a
  rcases hw with ⟨t1, q⟩ | ⟨t1, q⟩
  all_goals
    replace q := hidden q
    go_enter Tryd.func16, Tryd.ntmps16
    go_wp2_with fail
    refine (hc.out _).mono ?_
    rintro r' w1 ⟨rfl, hb⟩
    have hb1 := hidden (hb0.out _ hb)
    clear hb hb0 hc
    go_wp2
    go_ret
    exact ⟨ret_int q.out.symm, hb1.out⟩
theorem own_any (a : As) (o : Int) (w : World) : Calls Tryd.prog 25 #[asA a, .int .i64 o] w fun e w' => e = .returned (.bool (ownB a o)) ∧ Below w.heap.size w w' := by
  have hb := hidden (below_as w a)
  have hw := ownB_ways a o
  generalize ownB a o = r at *
  obtain ⟨i, s, c, m, e⟩ := a
  rcases hw with ⟨t1, q⟩ | ⟨t1, t2, q⟩ | ⟨t1, t2, q⟩
  all_goals
    replace q := hidden q
    go_enter Tryd.func25, Tryd.ntmps25
    go_wp2
    go_ret
    exact ⟨ret_bool q.out.symm, hb.out⟩
set_option maxHeartbeats 1600000 in
theorem counts_any (a : As) (y : Tm) (w : World) (ha : AsBig a) (hy : TmBig y) :
    Calls Tryd.prog 12 #[asA a, tmA y] w fun e w' => e = .returned (.bool (cnB a y)) ∧ Below w.heap.size w w' := by
  have hn := hidden (two15_new w tmTy a y)
  have hl := hidden (fun w => live_any a y.t w ha.2.2.2.2.1 ha.2.2.2.2.2 hy.1.1 hy.1.2)
  have ho := hidden (fun w => own_any a y.o w)
  have hq := hidden (show cnB a y = (y.n && lfB a.e y.t && !ownB a y.o) from rfl)
  generalize cnB a y = r at *
  generalize lfB a.e y.t = lf at *
  generalize ownB a y.o = ow at *
  clear ha hy
  obtain ⟨i, s, c, m, e⟩ := a
  obtain ⟨t, o, n, p, x, z⟩ := y
  cases n
  · go_enter Tryd.func12, Tryd.ntmps12
    go_wp2_with fail
    go_ret
    exact ⟨ret_bool hq.out.symm, hn.out.2⟩
  · cases lf
    · go_enter Tryd.func12, Tryd.ntmps12
      go_wp2_with fail
      refine (hl.out _).mono ?_
      rintro r' w1 ⟨rfl, hb⟩
      have hb1 := hidden (hn.out.2.trans (hb.mono hn.out.2.size))
      clear hb hl hn
      go_wp2_with fail
      go_ret
      exact ⟨ret_bool hq.out.symm, hb1.out⟩
    · go_enter Tryd.func12, Tryd.ntmps12
      go_wp2_with fail
      refine (hl.out _).mono ?_
      rintro r' w1 ⟨rfl, hb⟩
      have hb1 := hidden (hn.out.2.trans (hb.mono hn.out.2.size))
      have hn1 := hidden (hn.out.1.below hb)
      clear hb hl hn
      obtain ⟨c0, c1, c2, c3, c4⟩ := hn1.out.a.cells
      obtain ⟨d0, d1, d2, d3, d4, d5⟩ := hn1.out.y.cells
      simp only at c0 c1 c2 c3 c4 d0 d1 d2 d3 d4 d5
      go_wp2_with fail
      refine (ho.out _).mono ?_
      rintro r' w2 ⟨rfl, hb⟩
      replace hb1 := hidden (hb1.out.trans (hb.mono hb1.out.size))
      clear hb ho hn1 c0 c1 c2 c3 c4 d0 d1 d2 d3 d4 d5
      go_wp2_with fail
      go_ret
      exact ⟨ret_bool hq.out.symm, hb1.out⟩
end Go.Proofs.YtphpmngaljldgaaDoor
