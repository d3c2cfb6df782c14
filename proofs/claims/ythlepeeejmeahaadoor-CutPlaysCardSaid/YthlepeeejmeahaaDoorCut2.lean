/-
  SetFx, Set.
-/
import Derived.Test.YthlepeeejmeahaaDoorCut1
namespace Go.Proofs.YthlepeeejmeahaaDoor
open Go.RowKit Go.Maps
set_option linter.unusedVariables false

theorem cutsEq_some (b : Nat) (w : World) : (binOp .eql 26 (.map (some b)) (.map none)).run Tryd.prog w = .ok (.bool false) w := by kernel_rfl
theorem cutsEq_nil (w : World) : (binOp .eql 26 (.map none) (.map none)).run Tryd.prog w = .ok (.bool true) w := by kernel_rfl
theorem fxC_yes {x : Int} (h : decide (bpOk x) = true) : fxC x = 0 := if_pos (of_decide_eq_true h)
theorem fxC_no {x : Int} (h : decide (bpOk x) = false) : fxC x = 103 := if_neg (of_decide_eq_false h)
theorem setFx_any (A : Nat → Addr) (w : World) (B g n : Nat) (T : StepT → Option Int) (fx : Int) (h : LadAt w B g n T fx) (x : Int) (hE : ErrsOn [2] w A) :
    Calls Tryd.prog 11 #[.pointer (some ⟨g, 0, none⟩), .int .i64 x] w fun e w' => e = .returned (errOf A (fxC x)) ∧ LadAt w' B g n T (fxN fx x) ∧ Trd (ladB w g) w w' := by
  have c2 : w.cell? ⟨0, 0, none⟩ = some (errAt (A 2)) := hE 2 (by simp)
  have hC := isCut_any x w
  clear hE
  cases hx : decide (bpOk x) with
  | false =>
    rw [hx] at hC
    have e1 := fxC_no hx
    have e2 : fxN fx x = fx := if_neg (of_decide_eq_false hx)
    rw [e1, e2]
    have hC := hidden hC
    replace h := hidden h
    clear e1 e2 hx
    go_enter Tryd.func11, Tryd.ntmps11
    go_wp2_with fail
    refine hC.out.mono ?_
    rintro r w1 ⟨rfl, rfl⟩
    go_wp2
    go_ret
    exact ⟨rfl, h.out, Trd.refl _ _⟩
  | true =>
    rw [hx] at hC
    have e1 := fxC_yes hx
    have e2 : fxN fx x = x := if_pos (of_decide_eq_true hx)
    rw [e1, e2]
    have hC := hidden hC
    obtain ⟨m, hg, _⟩ := h.ex
    have fz : w.frozen? ⟨g, 1, none⟩ = false := by simp [World.frozen?, hg]
    have ht := hidden (Trd.setCell (S := ladB w g) w ⟨g, 1, none⟩ (.int .i64 x) (.inl rfl))
    replace h := hidden (h.setFx (of_decide_eq_true hx))
    have cg : ∃ u, w.cell? ⟨g, 1, none⟩ = some u := ⟨_, by rw [cell_of_row _ _ _ _ _ _ hg]; rfl⟩
    obtain ⟨u, cg⟩ := cg
    clear hg hx e1 e2
    go_enter Tryd.func11, Tryd.ntmps11
    go_wp2_with fail
    refine hC.out.mono ?_
    rintro r w1 ⟨rfl, rfl⟩
    go_wp2
    go_ret
    exact ⟨rfl, h.out, ht.out⟩

theorem setC_no1 {s : StepT} {x : Int} (h : decide (stOk s) = false) : setC s x = 103 := if_neg fun q => of_decide_eq_false h q.1
theorem setC_no2 {s : StepT} {x : Int} (h : decide (bpOk x) = false) : setC s x = 103 := if_neg fun q => of_decide_eq_false h q.2
theorem setC_yes {s : StepT} {x : Int} (h : decide (stOk s) = true) (h2 : decide (bpOk x) = true) : setC s x = 0 := if_pos ⟨of_decide_eq_true h, of_decide_eq_true h2⟩
theorem setT_no1 {T : StepT → Option Int} {s : StepT} {x : Int} (h : decide (stOk s) = false) : setT T s x = T := if_neg fun q => of_decide_eq_false h q.1
theorem setT_no2 {T : StepT → Option Int} {s : StepT} {x : Int} (h : decide (bpOk x) = false) : setT T s x = T := if_neg fun q => of_decide_eq_false h q.2
theorem setT_yes {T : StepT → Option Int} {s : StepT} {x : Int} (h : decide (stOk s) = true) (h2 : decide (bpOk x) = true) : setT T s x = updK T s x := if_pos ⟨of_decide_eq_true h, of_decide_eq_true h2⟩
theorem KeyVar.mono {κ : Type} {P : Program} {k e : TypeId} {q : IntKind} {ek : κ → Value} {ok : κ → Prop} {w : World} {m : Option Nat} {n n' : Nat} {T : κ → Option Int} (h : KeyVar P k e q ek ok w m n T) (hn : n ≤ n') : KeyVar P k e q ek ok w m n' T := by
  cases m with
  | none => exact h
  | some b => obtain ⟨D, h1, h2⟩ := h; exact ⟨D, h1.mono hn, h2⟩
theorem LadAt.mono {w : World} {B g n n' : Nat} {T : StepT → Option Int} {fx : Int} (h : LadAt w B g n T fx) (hn : n ≤ n') : LadAt w B g n' T fx := by
  obtain ⟨m, hg, hm, hB⟩ := h.ex
  exact ⟨⟨m, hg, hm.mono hn, hB⟩, h.low, h.cut, h.fxOk⟩
/-- a cut is laid into the map. -/
theorem ladAt_put {w : World} {B g n b : Nat} {T : StepT → Option Int} {fx : Int} (hg : w.heap[g]? = some (.cells #[.map (some b), .int .i64 fx] 28 (0, 0)))
    (hK : KeyTab Tryd.prog 42 2 .i64 stpV stIn w b n T) (hB : B ≤ b) (hB2 : B ≤ g) (hT : CutT T) (hf : bpOk fx) (hn : n < 1000000) {c d x : Int} (hs : decide (stOk (c, d)) = true) (hx : decide (bpOk x) = true) :
    ∃ w', (Instr.mapUpdate 26 (.map (some b)) (.agg #[.int .i64 c, .int .i64 d]) (.int .i64 x)).run Tryd.prog w.drew = .ok () w' ∧ LadAt w' B g (n + 1) (updK T (c, d) x) fx ∧ Trd (· = b) w w' := by
  have hx2 : bpOk x := of_decide_eq_true hx
  have hs2 : stOk (c, d) := of_decide_eq_true hs
  obtain ⟨w', hrun, hK', hgr⟩ := (KeyTab.block (w' := w.drew) hK rfl).put step_enc Tryd.underlying26 Tryd.underlying2 (by unfold maxLen; omega) (c, d) hs2.isIn x (WalkArith.wf_i64 (by unfold bpOk at hx2; omega))
  have hne : g ≠ b := by
    rintro rfl
    obtain ⟨es, c, he⟩ := hK.isMap
    rw [hg] at he
    cases he
  have hcut := hT.set (c, d) x
  rw [setT_yes hs hx] at hcut
  have hgl := (Array.getElem?_eq_some_iff.1 hg).1
  refine ⟨w', hrun, ⟨⟨some b, (hgr.block g hgl (fun e => hne (Option.some.inj e))).trans hg, hK', fun b' e => by cases e; exact hB⟩, hB2, hcut, hf⟩, ?_⟩
  exact (Trd.drew w).trans (Trd.grown hgr fun k e => (Option.some.inj e).symm)
/-- a map is made for the first cut. -/
theorem ladAt_first {w : World} {B g n : Nat} {T : StepT → Option Int} {fx : Int} (h : LadAt w B g n T fx) (hg : w.heap[g]? = some (.cells #[.map none, .int .i64 fx] 28 (0, 0))) (hB : B ≤ w.heap.size) :
    ((w.alloc (.map #[] 0)).setCell ⟨g, 0, none⟩ (.map (some w.heap.size))).heap[g]? = some (.cells #[.map (some w.heap.size), .int .i64 fx] 28 (0, 0)) ∧
    KeyTab Tryd.prog 42 2 .i64 stpV stIn ((w.alloc (.map #[] 0)).setCell ⟨g, 0, none⟩ (.map (some w.heap.size))) w.heap.size n T ∧ Trd (ladB w g) w ((w.alloc (.map #[] 0)).setCell ⟨g, 0, none⟩ (.map (some w.heap.size))) := by
  obtain ⟨m, hg2, hm, _⟩ := h.ex
  rw [hg] at hg2
  simp only [Option.some.injEq, Obj.cells.injEq, Array.mk.injEq, List.cons.injEq, Value.map.injEq, and_true] at hg2
  obtain rfl := hg2
  obtain rfl : T = fun _ => none := hm
  have hlt := h.lt
  have hg3 : (w.alloc (.map #[] 0)).heap[g]? = some (.cells #[.map none, .int .i64 fx] 28 (0, 0)) := by rw [heap_alloc_old _ _ hlt]; exact hg
  refine ⟨heap_setCell_row hg3 _, ?_, (Trd.alloc w _).trans (Trd.setCell _ _ _ (.inl rfl))⟩
  have h0 : KeyTab Tryd.prog 42 2 .i64 stpV stIn (w.alloc (.map #[] 0)) w.heap.size 0 (fun _ => none) := keyTab_made w
  obtain ⟨D, h1, h2⟩ := h0.block (w' := (w.alloc (.map #[] 0)).setCell ⟨g, 0, none⟩ (.map (some w.heap.size))) (Below.heap_setCell _ _ _ _ (by simp only; omega))
  exact ⟨D, h1.mono (Nat.zero_le _), h2⟩
end Go.Proofs.YthlepeeejmeahaaDoor
