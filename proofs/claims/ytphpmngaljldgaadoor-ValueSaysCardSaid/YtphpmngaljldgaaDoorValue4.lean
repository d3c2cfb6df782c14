/-
  The document's Value.
-/
import Derived.Test.YtphpmngaljldgaaDoorValue3
import Derived.Outline
namespace Go.Proofs.YtphpmngaljldgaaDoor
open Go.RowKit
set_option linter.unusedVariables false

theorem StAt.put0 {w : World} {g : Nat} {t : TypeId} {s : StT} (h : StAt w g t s) (x : Int) : StAt (w.setCell ⟨g, 0, none⟩ (.int .i64 x)) g t ⟨x, s.b, s.v⟩ := ⟨by rw [heap_setCell_row h.row]; rfl⟩
theorem StAt.put1 {w : World} {g : Nat} {t : TypeId} {s : StT} (h : StAt w g t s) (x : Int) : StAt (w.setCell ⟨g, 1, none⟩ (.int .i64 x)) g t ⟨s.w, x, s.v⟩ := ⟨by rw [heap_setCell_row h.row]; rfl⟩
theorem StAt.put2 {w : World} {g : Nat} {t : TypeId} {s : StT} (h : StAt w g t s) (x : Int) : StAt (w.setCell ⟨g, 2, none⟩ (.int .i64 x)) g t ⟨s.w, s.b, x⟩ := ⟨by rw [heap_setCell_row h.row]; rfl⟩
/-- an asset, terms, the result's steps, and the steps that are reckoned. -/
structure Four15 (w : World) (g : Nat) (a : As) (y : Tm) (s : StT) : Prop where
  a : AsAt w g a
  y : TmAt w (g + 1) tmTyR y
  r : StAt w (g + 1 + 1) stTyR vsZ
  s : StAt w (g + 1 + 1 + 1) stTyR s
theorem Four15.below {w w' : World} {g : Nat} {a : As} {y : Tm} {s : StT} (h : Four15 w g a y s) (hb : Below w.heap.size w w') : Four15 w' g a y s := ⟨h.a.below hb, h.y.below hb, h.r.below hb, h.s.below hb⟩
theorem Four15.put {w : World} {g o : Nat} {v : Value} {a : As} {y : Tm} {s s' : StT} (h : Four15 w g a y s) (hs : StAt (w.setCell ⟨g + 1 + 1 + 1, o, none⟩ v) (g + 1 + 1 + 1) stTyR s') : Four15 (w.setCell ⟨g + 1 + 1 + 1, o, none⟩ v) g a y s' := by
  refine ⟨⟨?_⟩, ⟨?_⟩, ⟨?_⟩, hs⟩
  · rw [Below.heap_setCell _ _ _ _ (by show g ≠ g + 1 + 1 + 1; omega)]; exact h.a.row
  · rw [Below.heap_setCell _ _ _ _ (by show g + 1 ≠ g + 1 + 1 + 1; omega)]; exact h.y.row
  · rw [Below.heap_setCell _ _ _ _ (by show g + 1 + 1 ≠ g + 1 + 1 + 1; omega)]; exact h.r.row
theorem four15_new (w : World) (a : As) (y : Tm) (s : StT) : Four15 ((((w.alloc (asO a)).alloc (tmO tmTyR y)).alloc (stO stTyR vsZ)).alloc (stO stTyR s)) w.heap.size a y s ∧ Below w.heap.size w ((((w.alloc (asO a)).alloc (tmO tmTyR y)).alloc (stO stTyR vsZ)).alloc (stO stTyR s)) := by
  obtain ⟨⟨h1, h2, h3⟩, h4⟩ := three15_new w tmTyR stTyR a y vsZ
  have h5 := stAt_new (((w.alloc (asO a)).alloc (tmO tmTyR y)).alloc (stO stTyR vsZ)) stTyR s
  simp only [World.size_alloc] at h5
  have h6 : Below (((w.alloc (asO a)).alloc (tmO tmTyR y)).alloc (stO stTyR vsZ)).heap.size (((w.alloc (asO a)).alloc (tmO tmTyR y)).alloc (stO stTyR vsZ)) ((((w.alloc (asO a)).alloc (tmO tmTyR y)).alloc (stO stTyR vsZ)).alloc (stO stTyR s)) := (Below.refl _ _).alloc (Nat.le_refl _) _
  exact ⟨⟨h1.below h6, h2.below h6, h3.below h6, h5⟩, h4.alloc h4.size _⟩
theorem stR_size : (Tryd.prog.info? stTyR).map (·.size) = some 3 := by kernel_rfl
theorem stR_end {a : Act} {w : World} {fn : Func} {R : Ending → World → Prop} {p u : Tmp} {g : Nat} {x : StT} {vb : Value}
    (h : fn.results = #[.cell p stTyR, .tmp u]) (hd : a.defers = []) (hp : a.tmps.getD p undef = .pointer (some ⟨g, 0, none⟩)) (hb : a.tmps.getD u undef = vb) (hg : StAt w g stTyR x)
    (hR : R (.returned (.tuple #[vsA x, vb])) w) : bodyPost Tryd.prog fn R .ret a w := by
  subst hb
  exact bodyPost_ret (results_cell2 h _ _ _ _ _ _ _ hp hg.row Tryd.underlying33 rfl stR_size) hd hR
theorem no_worth {i : Bool} {a b c : Int} {up : Bool} (h : ¬ capC i a b c up = 0) : capV i a b c up = 0 := by
  unfold capC at h
  unfold capV
  split
  · rename_i hi
    rw [if_pos hi] at h
    unfold amtC at h
    unfold amtV
    split
    · rename_i h2; rw [if_pos h2] at h; exact absurd rfl h
    · rfl
  · rfl

set_option maxRecDepth 100000 in
set_option maxHeartbeats 16000000 in
theorem refValue_any (a : As) (q : Int) (y : Tm) (w : World) (hq : -9223372036854775808 ≤ q ∧ q ≤ 9223372036854775807) (hy : TmBig y) :
    Calls Tryd.prog 9 #[asA a, .int .i64 q, tmA y] w fun e w' => e = .returned (.tuple #[vsA (vaS a q y), .int .i64 (vaC a q y)]) ∧ Below w.heap.size w w' := by
  have hn := hidden (fun s => four15_new w a y s)
  have hwb : -9223372036854775808 ≤ w1V a q y ∧ w1V a q y ≤ 9223372036854775807 := capV_bd _ _ _ _ _
  have hbb : -9223372036854775808 ≤ b1V a q y ∧ b1V a q y ≤ 9223372036854775807 := capV_bd _ _ _ _ _
  have hW := hidden (show ¬ a.c = 1 → ∀ W, Calls Tryd.prog 19 #[.int .i64 q, .int .i64 y.p] W fun e w' => e = .returned (.tuple #[.int .i64 (w1V a q y), .int .i64 (w1C a q y)]) ∧ W = w' from
    fun h W => by rw [(cash_none h).1, (cash_none h).2]; exact refWorth_any q y.p W hq.1 hq.2 hy.2.2.1.1 hy.2.2.1.2)
  have hB := hidden (show ∀ W, Calls Tryd.prog 20 #[.int .i64 (w1V a q y), .int .i64 y.r] W fun e w' => e = .returned (.tuple #[.int .i64 (b1V a q y), .int .i64 (b1C a q y)]) ∧ W = w' from
    fun W => refBase_any (w1V a q y) y.r W hwb.1 hwb.2 hy.2.2.2.1.1 hy.2.2.2.1.2)
  have hL := hidden (show ∀ W, Calls Tryd.prog 21 #[.int .i64 (b1V a q y), .int .i64 y.c] W fun e w' => e = .returned (.tuple #[.int .i64 (l1V a q y), .int .i64 (l1C a q y)]) ∧ W = w' from
    fun W => refLess_any (b1V a q y) y.c W hbb.1 hbb.2 hy.2.2.2.2.1 hy.2.2.2.2.2)
  have hC := hidden (fun W => refCounts_any a y W)
  have hcash := hidden (fun h : a.c = 1 => cash_worth (q := q) (y := y) h)
  have hw := value_ways a q y
  clear hq hy hwb hbb
  generalize vaS a q y = S at *
  generalize vaC a q y = C at *
  generalize l1V a q y = L at *
  generalize l1C a q y = lc at *
  generalize b1V a q y = B at *
  generalize b1C a q y = bc at *
  generalize w1V a q y = W1 at *
  generalize w1C a q y = wc at *
  generalize cnB a y = cn at *
  obtain ⟨i, s, c, m, e⟩ := a
  obtain ⟨t, o, n, p, x, z⟩ := y
  simp only at hcash hW
  by_cases hc1 : c = 1
  · obtain ⟨hno, hyes⟩ := hcash.out hc1
    have tc : (c == 1) = true := by simpa using hc1
    clear hcash hW hc1
    by_cases hqq : 0 ≤ q ∧ q ≤ 1000000000000
    · obtain ⟨rfl, hwc⟩ := hyes (by unfold win; rw [decide_eq_true_iff]; exact hqq)
      obtain ⟨q0, q1⟩ := hqq
      clear hno hyes
      rcases hw with ⟨k, _⟩ | ⟨-, k1, rfl, rfl⟩ | ⟨-, rfl, rfl, rfl, rfl⟩ | ⟨-, rfl, rfl, k1, rfl, rfl⟩ | ⟨-, rfl, rfl, rfl, rfl, rfl⟩
      · exact absurd hwc k
      · have t2 : (C == 0) = false := by simpa using k1
        have t3 : (C != 0) = true := by simpa using k1
        go_enter Tryd.func9, Tryd.ntmps9
        go_wp2_with fail
        clear hC hL
        refine (hB.out _).mono ?_
        rintro r ww ⟨rfl, rfl⟩
        clear hB
        go_wp2_with fail
        exact stR_end rfl rfl rfl rfl (hn.out ⟨W1, B, 0⟩).1.r ⟨rfl, (hn.out ⟨W1, B, 0⟩).2⟩
      · go_enter Tryd.func9, Tryd.ntmps9
        go_wp2_with fail
        clear hL
        refine (hB.out _).mono ?_
        rintro r ww ⟨rfl, rfl⟩
        clear hB
        go_wp2_with fail
        refine (hC.out _).mono ?_
        rintro r w7 ⟨rfl, hb⟩
        have hT := hidden ((hn.out ⟨W1, B, 0⟩).1.below hb)
        have hb1 := hidden ((hn.out ⟨W1, B, 0⟩).2.trans (hb.mono (hn.out ⟨W1, B, 0⟩).2.size))
        clear hn hb hC
        obtain ⟨a0, a1, a2, a3, a4⟩ := hT.out.a.cells
        obtain ⟨d0, d1, d2, d3, d4, d5⟩ := hT.out.y.cells
        obtain ⟨r0, r1, r2⟩ := hT.out.r.cells
        obtain ⟨s0, s1, s2⟩ := hT.out.s.cells
        have f0 := hT.out.r.frozen 0
        have f1 := hT.out.r.frozen 1
        have f2 := hT.out.r.frozen 2
        have g0 := hT.out.s.frozen 0
        have g1 := hT.out.s.frozen 1
        have g2 := hT.out.s.frozen 2
        simp only at a0 a1 a2 a3 a4 d0 d1 d2 d3 d4 d5 r0 r1 r2 s0 s1 s2
        go_wp2_with fail
        exact stR_end rfl rfl rfl rfl (hT.out.r.put ⟨W1, B, 0⟩) ⟨rfl, below_put15 hb1.out (by omega) _ _ _⟩
      · have t2 : (C == 0) = false := by simpa using k1
        have t3 : (C != 0) = true := by simpa using k1
        go_enter Tryd.func9, Tryd.ntmps9
        go_wp2_with fail
        refine (hB.out _).mono ?_
        rintro r ww ⟨rfl, rfl⟩
        clear hB
        go_wp2_with fail
        refine (hC.out _).mono ?_
        rintro r w7 ⟨rfl, hb⟩
        have hT := hidden ((hn.out ⟨W1, B, 0⟩).1.below hb)
        have hb1 := hidden ((hn.out ⟨W1, B, 0⟩).2.trans (hb.mono (hn.out ⟨W1, B, 0⟩).2.size))
        clear hn hb hC
        obtain ⟨a0, a1, a2, a3, a4⟩ := hT.out.a.cells
        obtain ⟨d0, d1, d2, d3, d4, d5⟩ := hT.out.y.cells
        obtain ⟨r0, r1, r2⟩ := hT.out.r.cells
        obtain ⟨s0, s1, s2⟩ := hT.out.s.cells
        have f0 := hT.out.r.frozen 0
        have f1 := hT.out.r.frozen 1
        have f2 := hT.out.r.frozen 2
        have g0 := hT.out.s.frozen 0
        have g1 := hT.out.s.frozen 1
        have g2 := hT.out.s.frozen 2
        simp only at a0 a1 a2 a3 a4 d0 d1 d2 d3 d4 d5 r0 r1 r2 s0 s1 s2
        go_wp2_with fail
        refine (hL.out _).mono ?_
        rintro r ww ⟨rfl, rfl⟩
        clear hL
        go_wp2_with fail
        have hT2 := hidden (hT.out.put (hT.out.s.put2 L))
        have hb2 := hidden (below_set15 (g := w.heap.size + 1 + 1 + 1) hb1.out (by omega) 2 (.int .i64 L))
        exact stR_end rfl rfl rfl rfl (hT2.out.r.put vsZ) ⟨rfl, below_put15 hb2.out (by omega) _ _ _⟩
      · go_enter Tryd.func9, Tryd.ntmps9
        go_wp2_with fail
        refine (hB.out _).mono ?_
        rintro r ww ⟨rfl, rfl⟩
        clear hB
        go_wp2_with fail
        refine (hC.out _).mono ?_
        rintro r w7 ⟨rfl, hb⟩
        have hT := hidden ((hn.out ⟨W1, B, 0⟩).1.below hb)
        have hb1 := hidden ((hn.out ⟨W1, B, 0⟩).2.trans (hb.mono (hn.out ⟨W1, B, 0⟩).2.size))
        clear hn hb hC
        obtain ⟨a0, a1, a2, a3, a4⟩ := hT.out.a.cells
        obtain ⟨d0, d1, d2, d3, d4, d5⟩ := hT.out.y.cells
        obtain ⟨r0, r1, r2⟩ := hT.out.r.cells
        obtain ⟨s0, s1, s2⟩ := hT.out.s.cells
        have f0 := hT.out.r.frozen 0
        have f1 := hT.out.r.frozen 1
        have f2 := hT.out.r.frozen 2
        have g0 := hT.out.s.frozen 0
        have g1 := hT.out.s.frozen 1
        have g2 := hT.out.s.frozen 2
        simp only at a0 a1 a2 a3 a4 d0 d1 d2 d3 d4 d5 r0 r1 r2 s0 s1 s2
        go_wp2_with fail
        refine (hL.out _).mono ?_
        rintro r ww ⟨rfl, rfl⟩
        clear hL
        go_wp2_with fail
        have hT2 := hidden (hT.out.put (hT.out.s.put2 L))
        have hb2 := hidden (below_set15 (g := w.heap.size + 1 + 1 + 1) hb1.out (by omega) 2 (.int .i64 L))
        exact stR_end rfl rfl rfl rfl (hT2.out.r.put ⟨W1, B, L⟩) ⟨rfl, below_put15 hb2.out (by omega) _ _ _⟩
    · obtain ⟨-, hwc⟩ := hno (by unfold win; rw [decide_eq_false_iff_not]; exact hqq)
      rcases hw with ⟨k1, rfl, rfl⟩ | ⟨k, _⟩ | ⟨k, _⟩ | ⟨k, _⟩ | ⟨k, _⟩
      · subst hwc
        clear hno hyes k1
        by_cases q0 : q < 0
        · clear hqq
          go_enter Tryd.func9, Tryd.ntmps9
          go_wp2_with fail
          exact stR_end rfl rfl rfl rfl (hn.out vsZ).1.r ⟨rfl, (hn.out vsZ).2⟩
        · have q1 : 1000000000000 < q := by omega
          clear hqq
          go_enter Tryd.func9, Tryd.ntmps9
          go_wp2_with fail
          exact stR_end rfl rfl rfl rfl (hn.out vsZ).1.r ⟨rfl, (hn.out vsZ).2⟩
      all_goals exact absurd (hwc.symm.trans k) (by decide)
  · have tc : (c == 1) = false := by simpa using hc1
    replace hW := hidden (hW.out hc1)
    clear hcash hc1
    rcases hw with ⟨k1, rfl, rfl⟩ | ⟨rfl, k1, rfl, rfl⟩ | ⟨rfl, rfl, rfl, rfl, rfl⟩ | ⟨rfl, rfl, rfl, k1, rfl, rfl⟩ | ⟨rfl, rfl, rfl, rfl, rfl, rfl⟩
    · have t2 : (C == 0) = false := by simpa using k1
      have t3 : (C != 0) = true := by simpa using k1
      clear hB hC hL
      go_enter Tryd.func9, Tryd.ntmps9
      go_wp2_with fail
      refine (hW.out _).mono ?_
      rintro r ww ⟨rfl, rfl⟩
      clear hW
      go_wp2_with fail
      exact stR_end rfl rfl rfl rfl (hn.out ⟨W1, 0, 0⟩).1.r ⟨rfl, (hn.out ⟨W1, 0, 0⟩).2⟩
    · have t2 : (C == 0) = false := by simpa using k1
      have t3 : (C != 0) = true := by simpa using k1
      go_enter Tryd.func9, Tryd.ntmps9
      go_wp2_with fail
      refine (hW.out _).mono ?_
      rintro r ww ⟨rfl, rfl⟩
      clear hW
      go_wp2_with fail
      clear hC hL
      refine (hB.out _).mono ?_
      rintro r ww ⟨rfl, rfl⟩
      clear hB
      go_wp2_with fail
      exact stR_end rfl rfl rfl rfl (hn.out ⟨W1, B, 0⟩).1.r ⟨rfl, (hn.out ⟨W1, B, 0⟩).2⟩
    · go_enter Tryd.func9, Tryd.ntmps9
      go_wp2_with fail
      refine (hW.out _).mono ?_
      rintro r ww ⟨rfl, rfl⟩
      clear hW
      go_wp2_with fail
      clear hL
      refine (hB.out _).mono ?_
      rintro r ww ⟨rfl, rfl⟩
      clear hB
      go_wp2_with fail
      refine (hC.out _).mono ?_
      rintro r w7 ⟨rfl, hb⟩
      have hT := hidden ((hn.out ⟨W1, B, 0⟩).1.below hb)
      have hb1 := hidden ((hn.out ⟨W1, B, 0⟩).2.trans (hb.mono (hn.out ⟨W1, B, 0⟩).2.size))
      clear hn hb hC
      obtain ⟨a0, a1, a2, a3, a4⟩ := hT.out.a.cells
      obtain ⟨d0, d1, d2, d3, d4, d5⟩ := hT.out.y.cells
      obtain ⟨r0, r1, r2⟩ := hT.out.r.cells
      obtain ⟨s0, s1, s2⟩ := hT.out.s.cells
      have f0 := hT.out.r.frozen 0
      have f1 := hT.out.r.frozen 1
      have f2 := hT.out.r.frozen 2
      have g0 := hT.out.s.frozen 0
      have g1 := hT.out.s.frozen 1
      have g2 := hT.out.s.frozen 2
      simp only at a0 a1 a2 a3 a4 d0 d1 d2 d3 d4 d5 r0 r1 r2 s0 s1 s2
      go_wp2_with fail
      exact stR_end rfl rfl rfl rfl (hT.out.r.put ⟨W1, B, 0⟩) ⟨rfl, below_put15 hb1.out (by omega) _ _ _⟩
    · have t2 : (C == 0) = false := by simpa using k1
      have t3 : (C != 0) = true := by simpa using k1
      go_enter Tryd.func9, Tryd.ntmps9
      go_wp2_with fail
      refine (hW.out _).mono ?_
      rintro r ww ⟨rfl, rfl⟩
      clear hW
      go_wp2_with fail
      refine (hB.out _).mono ?_
      rintro r ww ⟨rfl, rfl⟩
      clear hB
      go_wp2_with fail
      refine (hC.out _).mono ?_
      rintro r w7 ⟨rfl, hb⟩
      have hT := hidden ((hn.out ⟨W1, B, 0⟩).1.below hb)
      have hb1 := hidden ((hn.out ⟨W1, B, 0⟩).2.trans (hb.mono (hn.out ⟨W1, B, 0⟩).2.size))
      clear hn hb hC
      obtain ⟨a0, a1, a2, a3, a4⟩ := hT.out.a.cells
      obtain ⟨d0, d1, d2, d3, d4, d5⟩ := hT.out.y.cells
      obtain ⟨r0, r1, r2⟩ := hT.out.r.cells
      obtain ⟨s0, s1, s2⟩ := hT.out.s.cells
      have f0 := hT.out.r.frozen 0
      have f1 := hT.out.r.frozen 1
      have f2 := hT.out.r.frozen 2
      have g0 := hT.out.s.frozen 0
      have g1 := hT.out.s.frozen 1
      have g2 := hT.out.s.frozen 2
      simp only at a0 a1 a2 a3 a4 d0 d1 d2 d3 d4 d5 r0 r1 r2 s0 s1 s2
      go_wp2_with fail
      refine (hL.out _).mono ?_
      rintro r ww ⟨rfl, rfl⟩
      clear hL
      go_wp2_with fail
      have hT2 := hidden (hT.out.put (hT.out.s.put2 L))
      have hb2 := hidden (below_set15 (g := w.heap.size + 1 + 1 + 1) hb1.out (by omega) 2 (.int .i64 L))
      exact stR_end rfl rfl rfl rfl (hT2.out.r.put vsZ) ⟨rfl, below_put15 hb2.out (by omega) _ _ _⟩
    · go_enter Tryd.func9, Tryd.ntmps9
      go_wp2_with fail
      refine (hW.out _).mono ?_
      rintro r ww ⟨rfl, rfl⟩
      clear hW
      go_wp2_with fail
      refine (hB.out _).mono ?_
      rintro r ww ⟨rfl, rfl⟩
      clear hB
      go_wp2_with fail
      refine (hC.out _).mono ?_
      rintro r w7 ⟨rfl, hb⟩
      have hT := hidden ((hn.out ⟨W1, B, 0⟩).1.below hb)
      have hb1 := hidden ((hn.out ⟨W1, B, 0⟩).2.trans (hb.mono (hn.out ⟨W1, B, 0⟩).2.size))
      clear hn hb hC
      obtain ⟨a0, a1, a2, a3, a4⟩ := hT.out.a.cells
      obtain ⟨d0, d1, d2, d3, d4, d5⟩ := hT.out.y.cells
      obtain ⟨r0, r1, r2⟩ := hT.out.r.cells
      obtain ⟨s0, s1, s2⟩ := hT.out.s.cells
      have f0 := hT.out.r.frozen 0
      have f1 := hT.out.r.frozen 1
      have f2 := hT.out.r.frozen 2
      have g0 := hT.out.s.frozen 0
      have g1 := hT.out.s.frozen 1
      have g2 := hT.out.s.frozen 2
      simp only at a0 a1 a2 a3 a4 d0 d1 d2 d3 d4 d5 r0 r1 r2 s0 s1 s2
      go_wp2_with fail
      refine (hL.out _).mono ?_
      rintro r ww ⟨rfl, rfl⟩
      clear hL
      go_wp2_with fail
      have hT2 := hidden (hT.out.put (hT.out.s.put2 L))
      have hb2 := hidden (below_set15 (g := w.heap.size + 1 + 1 + 1) hb1.out (by omega) 2 (.int .i64 L))
      exact stR_end rfl rfl rfl rfl (hT2.out.r.put ⟨W1, B, L⟩) ⟨rfl, below_put15 hb2.out (by omega) _ _ _⟩
end Go.Proofs.YtphpmngaljldgaaDoor
