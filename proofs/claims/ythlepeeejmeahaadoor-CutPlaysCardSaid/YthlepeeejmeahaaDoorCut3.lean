/-
  Set.
-/
import Derived.Test.YthlepeeejmeahaaDoorCut2
namespace Go.Proofs.YthlepeeejmeahaaDoor
open Go.RowKit Go.Maps
set_option linter.unusedVariables false

theorem step_cells (w w' : World) (c d : Int) (h : Below (w.alloc (stpO (c, d))).heap.size (w.alloc (stpO (c, d))) w') : w'.cell? ⟨w.heap.size, 0, none⟩ = some (.int .i64 c) ∧ w'.cell? ⟨w.heap.size, 1, none⟩ = some (.int .i64 d) := by
  have h1 : w'.heap[w.heap.size]? = some (stpO (c, d)) := (h.block _ (by simp)).trans (heap_alloc_new w _)
  exact ⟨by rw [cell_of_row _ _ _ _ _ _ h1]; rfl, by rw [cell_of_row _ _ _ _ _ _ h1]; rfl⟩
theorem three_cells {w w' : World} {g k b : Nat} {u0 u1 u2 : Value} (ht : Trd (· = b) w w') (hg : g ≠ b) (hk : k ≠ b) (h0 : w.cell? ⟨g, 0, none⟩ = some u0) (h1 : w.cell? ⟨k, 0, none⟩ = some u1) (h2 : w.cell? ⟨k, 1, none⟩ = some u2) :
    w'.cell? ⟨g, 0, none⟩ = some u0 ∧ w'.cell? ⟨k, 0, none⟩ = some u1 ∧ w'.cell? ⟨k, 1, none⟩ = some u2 := by
  refine ⟨?_, ?_, ?_⟩
  · rw [World.cell?_of_block (w := w) (ht.block _ (World.block_lt_of_cell? w _ h0) hg)]; exact h0
  · rw [World.cell?_of_block (w := w) (ht.block _ (World.block_lt_of_cell? w _ h1) hk)]; exact h1
  · rw [World.cell?_of_block (w := w) (ht.block _ (World.block_lt_of_cell? w _ h2) hk)]; exact h2
/-- what lies behind all that was there counts for nothing. -/
theorem Trd.trans' {S S' : Nat → Prop} {w w1 w2 : World} (h : Trd S w w1) (k : Trd S' w1 w2) (hS : ∀ k, k < w.heap.size → ¬ S k → ¬ S' k) : Trd S w w2 :=
  ⟨k.os.trans h.os, k.tape.trans h.tape, k.output.trans h.output, Nat.le_trans h.size k.size, fun i hi hn => (k.block i (Nat.lt_of_lt_of_le hi h.size) (hS i hi hn)).trans (h.block i hi hn)⟩
theorem LadAt.ne_map {w : World} {B g n b : Nat} {T : StepT → Option Int} {fx : Int} (h : LadAt w B g n T fx) {es : Array MapEntry} {c : Nat} (hb : w.heap[b]? = some (.map es c)) : g ≠ b := by
  rintro rfl
  obtain ⟨m, hg, _⟩ := h.ex
  rw [hg] at hb
  cases hb
theorem ladB_below {w w' : World} {B g n : Nat} {T : StepT → Option Int} {fx : Int} (h : LadAt w B g n T fx) (hb : Below w.heap.size w w') : ladB w' g = ladB w g := by
  funext k
  unfold ladB
  rw [World.cell?_of_block (w := w) (hb.block _ h.lt)]
def SetAt (A : Nat → Addr) (B g n : Nat) (T : StepT → Option Int) (fx : Int) (s : StepT) (x : Int) (w : World) (e : Ending) (w' : World) : Prop :=
  e = .returned (errOf A (setC s x)) ∧ LadAt w' B g (n + 1) (setT T s x) fx ∧ Trd (ladB w g) w w'
set_option maxRecDepth 100000 in
set_option maxHeartbeats 3200000 in
theorem set_anyC (A : Nat → Addr) (w : World) (B g n : Nat) (T : StepT → Option Int) (fx : Int) (h : LadAt w B g n T fx) (hB : B ≤ w.heap.size) (hn : n < 1000000) (s : StepT) (x : Int) (hE : ErrsOn [2] w A) :
    Calls Tryd.prog 9 #[.pointer (some ⟨g, 0, none⟩), stpV s, .int .i64 x] w (SetAt A B g n T fx s x w) := by
  obtain ⟨c, d⟩ := s
  have c2 : w.cell? ⟨0, 0, none⟩ = some (errAt (A 2)) := hE 2 (by simp)
  have c3 : (w.alloc (stpO (c, d))).cell? ⟨0, 0, none⟩ = some (errAt (A 2)) := by
    rw [World.cell?_alloc_lt _ _ _ (World.block_lt_of_cell? w _ c2)]; exact c2
  have hk := hidden (fun w' (h : Below (w.alloc (stpO (c, d))).heap.size (w.alloc (stpO (c, d))) w') => show w'.cell? ⟨0, 0, none⟩ = some (errAt (A 2)) by
    rw [World.cell?_of_block (w := w.alloc (stpO (c, d))) (h.block _ (World.block_lt_of_cell? _ _ c3))]; exact c3)
  have hbw := hidden (fun w' (h : Below (w.alloc (stpO (c, d))).heap.size (w.alloc (stpO (c, d))) w') => (below_st w (c, d)).trans (h.mono (below_st w (c, d)).size))
  have hcs := hidden (fun w' => step_cells w w' c d)
  have hS := hidden (isStep_any (c, d) (w.alloc (stpO (c, d))))
  have hC := hidden (fun W => isCut_any x W)
  clear hE c2 c3
  unfold SetAt
  cases hs : decide (stOk (c, d)) with
  | false =>
    rw [hs] at hS
    rw [setC_no1 hs, setT_no1 hs]
    replace h := hidden h
    clear hs hC hcs
    go_enter Tryd.func9, Tryd.ntmps9
    go_wp2_with fail
    refine hS.out.mono ?_
    rintro r w1 ⟨rfl, hb⟩
    have cE := hk.out _ hb
    have hb1 := hidden (hbw.out _ hb)
    clear hb hk hbw hS
    go_wp2
    go_ret
    exact ⟨rfl, (h.out.below hb1.out (Nat.le_refl _)).mono (Nat.le_succ _), Trd.of_below hb1.out (Nat.le_refl _)⟩
  | true =>
    cases hx : decide (bpOk x) with
    | false =>
      rw [hs] at hS
      rw [hx] at hC
      rw [setC_no2 hx, setT_no2 hx]
      replace h := hidden h
      clear hs hx hcs
      go_enter Tryd.func9, Tryd.ntmps9
      go_wp2_with fail
      refine hS.out.mono ?_
      rintro r w1 ⟨rfl, hb⟩
      have cE := hk.out _ hb
      have hb1 := hidden (hbw.out _ hb)
      clear hb hk hbw hS
      go_wp2_with fail
      refine (hC.out _).mono ?_
      rintro r w2 ⟨rfl, rfl⟩
      go_wp2
      go_ret
      exact ⟨rfl, (h.out.below hb1.out (Nat.le_refl _)).mono (Nat.le_succ _), Trd.of_below hb1.out (Nat.le_refl _)⟩
    | true =>
      rw [hs] at hS
      rw [hx] at hC
      rw [setC_yes hs hx, setT_yes hs hx]
      have hs' := hidden hs
      have hx' := hidden hx
      obtain ⟨m, hg, hm, hmB⟩ := h.ex
      have hgl := h.lt
      replace h := hidden h
      clear hs hx hk
      cases m with
      | some b =>
        replace hm : KeyTab _ _ _ _ _ _ w b n T := hm
        have hbB := hidden (hmB b rfl)
        replace hm := hidden hm
        replace hg := hidden hg
        clear hmB
        go_enter Tryd.func9, Tryd.ntmps9
        go_wp2_with fail
        refine hS.out.mono ?_
        rintro r w1 ⟨rfl, hb⟩
        obtain ⟨k0, k1⟩ := hcs.out _ hb
        have hb1 := hidden (hbw.out _ hb)
        clear hb hbw hS hcs
        go_wp2_with fail
        refine (hC.out _).mono ?_
        rintro r w2 ⟨rfl, rfl⟩
        clear hC
        have hg1 := (hb1.out.block _ hgl).trans hg.out
        have c0 : w1.cell? ⟨g, 0, none⟩ = some (.map (some b)) := by rw [cell_of_row _ _ _ _ _ _ hg1]; rfl
        obtain ⟨w3, hrun, h3, ht3⟩ := ladAt_put hg1 (hm.out.block (hb1.out.block _ hm.out.lt)) hbB.out h.out.low h.out.cut h.out.fxOk hn hs'.out hx'.out
        replace h3 := hidden h3
        have hne : g ≠ b := by
          obtain ⟨es, c, hes⟩ := hm.out.isMap
          exact h.out.ne_map hes
        have hne2 : w.heap.size ≠ b := by have := hm.out.lt; omega
        have s3 := hidden (three_cells ht3 hne hne2 c0 k0 k1)
        have ht := hidden (Trd.mono (S' := ladB w g) ht3 (fun k e => .inr (by rw [e, cell_of_row _ _ _ _ _ _ hg.out]; rfl)))
        have ht1 := hidden (Trd.of_below (S := ladB w g) hb1.out (Nat.le_refl _))
        clear hg1 ht3 hg hm hs' hx' h hn hne hne2
        have qe := cutsEq_some b
        go_wp2_with fail
        go_region_held3 (fun W => W.cell? ⟨g, 0, none⟩ = some (.map (some b)) ∧ W.cell? ⟨w.heap.size, 0, none⟩ = some (.int .i64 c) ∧ W.cell? ⟨w.heap.size, 1, none⟩ = some (.int .i64 d))
          ((first | exact ⟨c0, k0, k1⟩ | exact s3.out)) (fail)
        go_wp2
        go_ret
        exact ⟨rfl, h3.out, ht1.out.trans ht.out⟩
      | none =>
        have hbB := hidden hB
        replace hg := hidden hg
        clear hmB hm
        go_enter Tryd.func9, Tryd.ntmps9
        go_wp2_with fail
        refine hS.out.mono ?_
        rintro r w1 ⟨rfl, hb⟩
        have hcs1 := hidden (hcs.out _ hb)
        have hb1 := hidden (hbw.out _ hb)
        clear hbw hS hcs
        replace hb := hidden hb
        go_wp2_with fail
        refine (hC.out _).mono ?_
        rintro r w2 ⟨rfl, rfl⟩
        clear hC
        have hg1 := (hb1.out.block _ hgl).trans hg.out
        have c0 : w1.cell? ⟨g, 0, none⟩ = some (.map none) := by rw [cell_of_row _ _ _ _ _ _ hg1]; rfl
        have hg1' : (w1.alloc (.map #[] 0)).heap[g]? = some (.cells #[.map none, .int .i64 fx] 28 (0, 0)) := by rw [heap_alloc_old _ _ (Array.getElem?_eq_some_iff.1 hg1).1]; exact hg1
        have fz : (w1.alloc (.map #[] 0)).frozen? ⟨g, 0, none⟩ = false := by simp [World.frozen?, hg1']
        have c0a : (w1.alloc (.map #[] 0)).cell? ⟨g, 0, none⟩ = some (.map none) := by rw [cell_of_row _ _ _ _ _ _ hg1']; rfl
        have h1 := h.out.below hb1.out (Nat.le_refl _)
        have hB1 := Nat.le_trans hbB.out hb1.out.size
        obtain ⟨q1, q2, q3⟩ := ladAt_first h1 hg1 hB1
        obtain ⟨w3, hrun, h3, ht3⟩ := ladAt_put q1 q2 hB1 h.out.low h.out.cut h.out.fxOk hn hs'.out hx'.out
        replace h3 := hidden h3
        have hgne : w.heap.size ≠ g := by omega
        have hsz : w.heap.size < w1.heap.size := Nat.lt_of_lt_of_le (by simp) hb.out.size
        have cm : ((w1.alloc (.map #[] 0)).setCell ⟨g, 0, none⟩ (.map (some w1.heap.size))).cell? ⟨g, 0, none⟩ = some (.map (some w1.heap.size)) := by rw [cell_of_row _ _ _ _ _ _ q1]; rfl
        have ck : ∀ j u, w1.cell? ⟨w.heap.size, j, none⟩ = some u → ((w1.alloc (.map #[] 0)).setCell ⟨g, 0, none⟩ (.map (some w1.heap.size))).cell? ⟨w.heap.size, j, none⟩ = some u := fun j u hu => by
          rw [World.cell?_of_block (w := w1) (q3.block _ (World.block_lt_of_cell? _ _ hu) (fun e => by
            rcases e with e | e
            · exact hgne e
            · rw [c0] at e; cases e))]
          exact hu
        obtain ⟨k0, k1⟩ := hcs1.out
        have s2 := hidden (show _ ∧ _ ∧ _ from ⟨cm, ck _ _ k0, ck _ _ k1⟩)
        have s3 := hidden (three_cells ht3 (by omega) (by omega) cm (ck _ _ k0) (ck _ _ k1))
        have htm := hidden (q3.trans' ht3 (fun k hk hk2 => by omega))
        have qe := cutsEq_nil
        have ql := ladB_below h.out hb1.out
        have ht1 := hidden (Trd.of_below (S := ladB w g) hb1.out (Nat.le_refl _))
        rw [ql] at htm
        have hmm := @run_makeMap Tryd.prog
        clear q1 q2 q3 cm ck hg1 hg1' hg hs' hx' hn h1 hB1 hbB ht3 hgne hsz hb ql
        go_wp2_with fail
        go_region_held3 (fun W => W.cell? ⟨g, 0, none⟩ = some (.map (some w1.heap.size)) ∧ W.cell? ⟨w.heap.size, 0, none⟩ = some (.int .i64 c) ∧ W.cell? ⟨w.heap.size, 1, none⟩ = some (.int .i64 d))
          ((first | exact s2.out | exact s3.out)) (fail)
        go_wp2
        go_ret
        exact ⟨rfl, h3.out, ht1.out.trans htm.out⟩
end Go.Proofs.YthlepeeejmeahaaDoor
