/-
  Set.
-/
import Derived.Test.YtlanggdmdpjfbaaDoorStress1
namespace Go.Proofs.YtlanggdmdpjfbaaDoor
open Go.RowKit Go.Maps Go.MapKept
set_option linter.unusedVariables false

theorem cel_cells (w w' : World) (c d : Int) (h : Below (w.alloc (celO (c, d))).heap.size (w.alloc (celO (c, d))) w') : w'.cell? ⟨w.heap.size, 0, none⟩ = some (.int .i64 c) ∧ w'.cell? ⟨w.heap.size, 1, none⟩ = some (.int .i64 d) := by
  have h1 : w'.heap[w.heap.size]? = some (celO (c, d)) := (h.block _ (by simp)).trans (heap_alloc_new w _)
  exact ⟨by rw [cell_of_row _ _ _ _ _ _ h1]; rfl, by rw [cell_of_row _ _ _ _ _ _ h1]; rfl⟩
theorem lossEq_some (b : Nat) (w : World) : (binOp .eql 25 (.map (some b)) (.map none)).run Tryd.prog w = .ok (.bool false) w := by kernel_rfl
theorem lossEq_nil (w : World) : (binOp .eql 25 (.map none) (.map none)).run Tryd.prog w = .ok (.bool true) w := by kernel_rfl
theorem loAt_of {w : World} {B g n b : Nat} {T : LTab} (hg : w.heap[g]? = some (.cells #[.map (some b)] 27 (0, 0))) (hK : KeyTab Tryd.prog 36 2 .i64 celV celIn w b n T) (hB : B ≤ b) (hB2 : B ≤ g) (hT : LoT T) : LoAt w B g n T :=
  ⟨⟨some b, hg, hK, fun b' e => by cases e; exact hB⟩, hB2, hT⟩
/-- a loss is laid into the map. -/
theorem loAt_put {w : World} {B g n b : Nat} {T : LTab} (hg : w.heap[g]? = some (.cells #[.map (some b)] 27 (0, 0)))
    (hK : KeyTab Tryd.prog 36 2 .i64 celV celIn w b n T) (hB : B ≤ b) (hB2 : B ≤ g) (hT : LoT T) (hn : n < 1000000) {c d x : Int} (hs : celOk (c, d)) (hx : amOk x) (h0 : x ≠ 0) :
    ∃ w', (Instr.mapUpdate 25 (.map (some b)) (.agg #[.int .i64 c, .int .i64 d]) (.int .i64 x)).run Tryd.prog w.drew = .ok () w' ∧ LoAt w' B g (n + 1) (updK T (c, d) x) ∧ Trd (· = b) w w' := by
  obtain ⟨w', hrun, hK', hgr⟩ := (KeyTab.block (w' := w.drew) hK rfl).put cel_enc Tryd.underlying25 Tryd.underlying2 (by unfold maxLen; omega) (c, d) hs.isIn x (WalkArith.wf_i64 (by unfold amOk at hx; omega))
  have hne : g ≠ b := by
    rintro rfl
    obtain ⟨es, c, he⟩ := hK.isMap
    rw [hg] at he
    cases he
  have hgl := (Array.getElem?_eq_some_iff.1 hg).1
  exact ⟨w', hrun, loAt_of ((hgr.block g hgl (fun e => hne (Option.some.inj e))).trans hg) hK' hB hB2 (hT.upd hs hx h0), (Trd.drew w).trans (Trd.grown hgr fun k e => (Option.some.inj e).symm)⟩
/-- a cell is taken out of the map. -/
theorem loAt_drop {w : World} {B g n b : Nat} {T : LTab} (hg : w.heap[g]? = some (.cells #[.map (some b)] 27 (0, 0)))
    (hK : KeyTab Tryd.prog 36 2 .i64 celV celIn w b n T) (hB : B ≤ b) (hB2 : B ≤ g) (hT : LoT T) {c d : Int} (hs : celOk (c, d)) (ty : TypeId) :
    ∃ w', (Builtin.delete_ #[25, 36] ty #[.map (some b), .agg #[.int .i64 c, .int .i64 d]]).run Tryd.prog w.drew = .ok (.tuple #[]) w' ∧ LoAt w' B g n (dropK T (c, d)) ∧ Trd (· = b) w w' := by
  obtain ⟨w', hrun, hK', hturn⟩ := (KeyTab.block (w' := w.drew) hK rfl).drop cel_enc Tryd.underlying25 (c, d) hs.isIn ty
  have hgr := hturn.grown
  have hne : g ≠ b := by
    rintro rfl
    obtain ⟨es, c, he⟩ := hK.isMap
    rw [hg] at he
    cases he
  have hgl := (Array.getElem?_eq_some_iff.1 hg).1
  exact ⟨w', hrun, loAt_of ((hgr.block g hgl (fun e => hne (Option.some.inj e))).trans hg) hK' hB hB2 (hT.drop _), (Trd.drew w).trans (Trd.grown hgr fun k e => (Option.some.inj e).symm)⟩
/-- a map is made for the first loss. -/
theorem loAt_first {w : World} {B g n : Nat} {T : LTab} (h : LoAt w B g n T) (hg : w.heap[g]? = some (.cells #[.map none] 27 (0, 0))) (hB : B ≤ w.heap.size) :
    ((w.alloc (.map #[] 0)).setCell ⟨g, 0, none⟩ (.map (some w.heap.size))).heap[g]? = some (.cells #[.map (some w.heap.size)] 27 (0, 0)) ∧
    KeyTab Tryd.prog 36 2 .i64 celV celIn ((w.alloc (.map #[] 0)).setCell ⟨g, 0, none⟩ (.map (some w.heap.size))) w.heap.size n T ∧ Trd (loB w g) w ((w.alloc (.map #[] 0)).setCell ⟨g, 0, none⟩ (.map (some w.heap.size))) := by
  obtain ⟨m, hg2, hm, _⟩ := h.ex
  rw [hg] at hg2
  simp only [Option.some.injEq, Obj.cells.injEq, Array.mk.injEq, List.cons.injEq, Value.map.injEq, and_true] at hg2
  obtain rfl := hg2
  obtain rfl : T = fun _ => none := hm
  have hlt := h.lt
  have hg3 : (w.alloc (.map #[] 0)).heap[g]? = some (.cells #[.map none] 27 (0, 0)) := by rw [heap_alloc_old _ _ hlt]; exact hg
  refine ⟨heap_setCell_row hg3 _, ?_, (Trd.alloc w _).trans (Trd.setCell _ _ _ (.inl rfl))⟩
  have h0 : KeyTab Tryd.prog 36 2 .i64 celV celIn (w.alloc (.map #[] 0)) w.heap.size 0 (fun _ => none) := keyTab_made w
  obtain ⟨D, h1, h2⟩ := h0.block (w' := (w.alloc (.map #[] 0)).setCell ⟨g, 0, none⟩ (.map (some w.heap.size))) (Below.heap_setCell _ _ _ _ (by simp only; omega))
  exact ⟨D, h1.mono (Nat.zero_le _), h2⟩
def LoDone (A : Nat → Addr) (B g n : Nat) (T : LTab) (s : CelT) (x : Int) (w : World) (e : Ending) (w' : World) : Prop :=
  e = .returned (errOf A (setLC s x)) ∧ LoAt w' B g (n + 1) (setLT T s x) ∧ Trd (loB w g) w w'
theorem set22_ways (c d x : Int) : (decide (scOk c) = false ∧ ¬ (celOk (c, d) ∧ amOk x)) ∨ (decide (scOk c) = true ∧ decide (meOk d) = false ∧ ¬ (celOk (c, d) ∧ amOk x)) ∨ (decide (scOk c) = true ∧ decide (meOk d) = true ∧ decide (amOk x) = false ∧ ¬ (celOk (c, d) ∧ amOk x)) ∨
    (decide (scOk c) = true ∧ decide (meOk d) = true ∧ decide (amOk x) = true ∧ celOk (c, d) ∧ amOk x) := by
  simp only [decide_eq_true_iff, decide_eq_false_iff_not]
  unfold celOk scOk meOk amOk
  simp only
  omega
set_option maxRecDepth 100000 in
set_option maxHeartbeats 3200000 in
theorem loSet_any (A : Nat → Addr) (w : World) (B g n : Nat) (T : LTab) (h : LoAt w B g n T) (hB : B ≤ w.heap.size) (hn : n < 1000000) (s : CelT) (x : Int) (hE : ErrsOn [2] w A) :
    Calls Tryd.prog 8 #[.pointer (some ⟨g, 0, none⟩), celV s, .int .i64 x] w (LoDone A B g n T s x w) := by
  obtain ⟨c, d⟩ := s
  have hb0 := below_cel w (c, d)
  obtain ⟨k0, k1⟩ := cel_cells w (w.alloc (celO (c, d))) c d (Below.refl _ _)
  have cE : (w.alloc (celO (c, d))).cell? ⟨0, 0, none⟩ = some (errAt (A 2)) := (hE.below hb0 (Nat.le_refl _)) 2 (by simp)
  have hS := hidden (isScene_any c)
  have hM := hidden (isMember_any d)
  have hQ := hidden (isAmount_any x)
  have ha := hidden (h.below hb0 (Nat.le_refl _))
  have ht0 := hidden (Trd.of_below (S := loB w g) hb0 (Nat.le_refl _))
  have hBa := hidden (Nat.le_trans hB hb0.size)
  have hql := hidden (loB_below h hb0)
  have hgl := h.lt
  have hsz : w.heap.size < (w.alloc (celO (c, d))).heap.size := by simp
  clear hE hB
  unfold LoDone
  have hways := hidden (set22_ways c d x)
  have hh := hidden h
  clear h hb0
  rcases hways.out with ⟨p1, q⟩ | ⟨p1, p2, q⟩ | ⟨p1, p2, p3, q⟩ | ⟨p1, p2, p3, q1, q2⟩
  iterate 3
    · rw [show setLC (c, d) x = 103 from if_neg q, show setLT T (c, d) x = T from if_neg q, show errOf A 103 = errAt (A 2) from rfl]
      clear q hways hBa hql
      generalize decide (scOk c) = u1 at *
      generalize decide (meOk d) = u2 at *
      generalize decide (amOk x) = u3 at *
      go_enter Tryd.func8, Tryd.ntmps8
      go_wp2_with (first
        | (go_at_call 20; refine (hS.out _).mono ?_; rintro e w' ⟨rfl, rfl⟩)
        | (go_at_call 21; refine (hM.out _).mono ?_; rintro e w' ⟨rfl, rfl⟩)
        | (go_at_call 22; refine (hQ.out _).mono ?_; rintro e w' ⟨rfl, rfl⟩))
      go_ret
      exact ⟨rfl, ha.out.mono (Nat.le_succ _), ht0.out⟩
  · rw [show setLC (c, d) x = 0 from if_pos ⟨q1, q2⟩, show setLT T (c, d) x = if x = 0 then dropK T (c, d) else updK T (c, d) x from if_pos ⟨q1, q2⟩, errOf_fine]
    clear hways
    replace q1 := hidden q1
    replace q2 := hidden q2
    generalize hT2 : (if x = 0 then dropK T (c, d) else updK T (c, d) x) = T2
    replace hT2 := hidden hT2
    generalize decide (scOk c) = u1 at *
    generalize decide (meOk d) = u2 at *
    generalize decide (amOk x) = u3 at *
    subst p1; subst p2; subst p3
    go_enter Tryd.func8, Tryd.ntmps8
    go_wp2_with fail
    refine (hS.out _).mono ?_
    rintro r w1 ⟨rfl, rfl⟩
    generalize w.alloc (celO (c, d)) = wa at *
    go_wp2_with fail
    refine (hM.out _).mono ?_
    rintro r w1 ⟨rfl, rfl⟩
    go_wp2_with fail
    refine (hQ.out _).mono ?_
    rintro r w1 ⟨rfl, rfl⟩
    clear hS hM hQ cE
    have hgne : w.heap.size ≠ g := by omega
    obtain ⟨m, hg1, hm, hmB⟩ := ha.out.ex
    have c0 : wa.cell? ⟨g, 0, none⟩ = some (.map m) := by rw [cell_of_row _ _ _ _ _ _ hg1]; rfl
    cases m with
    | some b =>
      replace hm : KeyTab _ _ _ _ _ _ wa b n T := hm
      have hne : g ≠ b := by
        obtain ⟨es, c, hes⟩ := hm.isMap
        exact ha.out.ne_map hes
      have hne2 : w.heap.size ≠ b := by
        rintro rfl
        obtain ⟨es, c, hes⟩ := hm.isMap
        have e := k0
        unfold World.cell? at e
        simp only [hes] at e
        cases e
      have hbB := hmB b rfl
      have hbs : ∀ k, k = b → loB wa g k := fun k e => .inr (by rw [e, c0])
      by_cases hx0 : x = 0
      · have eT : dropK T (c, d) = T2 := by rw [← hT2.out, if_pos hx0]
        obtain ⟨w3, hrun, h3, ht3⟩ := loAt_drop hg1 hm hbB ha.out.low ha.out.lo q1.out 0
        rw [eT] at h3
        replace h3 := hidden h3
        have s3 := hidden (three_cells ht3 hne hne2 c0 k0 k1)
        have ht := hidden (Trd.mono (S' := loB wa g) ht3 hbs)
        rw [hql.out] at ht
        have hxb : (x == 0) = true := by simpa using hx0
        clear hg1 ht3 hm hgl hsz hne hne2 hbs hbB hmB hql hx0 hn eT hT2
        go_wp2_with fail
        go_region_held3 (fun W => W.cell? ⟨g, 0, none⟩ = some (.map (some b)) ∧ W.cell? ⟨w.heap.size, 0, none⟩ = some (.int .i64 c) ∧ W.cell? ⟨w.heap.size, 1, none⟩ = some (.int .i64 d))
          ((first | exact ⟨c0, k0, k1⟩ | exact s3.out)) (fail)
        go_wp2
        go_ret
        exact ⟨rfl, h3.out.mono (Nat.le_succ _), ht0.out.trans ht.out⟩
      · have eT : updK T (c, d) x = T2 := by rw [← hT2.out, if_neg hx0]
        obtain ⟨w3, hrun, h3, ht3⟩ := loAt_put hg1 hm hbB ha.out.low ha.out.lo hn q1.out q2.out hx0
        rw [eT] at h3
        replace h3 := hidden h3
        have s3 := hidden (three_cells ht3 hne hne2 c0 k0 k1)
        have ht := hidden (Trd.mono (S' := loB wa g) ht3 hbs)
        rw [hql.out] at ht
        have hxb : (x == 0) = false := by simpa using hx0
        have qe := lossEq_some b
        clear hg1 ht3 hm hgl hsz hne hne2 hbs hbB hmB hql hx0 hn eT hT2
        go_wp2_with fail
        go_region_held3 (fun W => W.cell? ⟨g, 0, none⟩ = some (.map (some b)) ∧ W.cell? ⟨w.heap.size, 0, none⟩ = some (.int .i64 c) ∧ W.cell? ⟨w.heap.size, 1, none⟩ = some (.int .i64 d))
          ((first | exact ⟨c0, k0, k1⟩ | exact s3.out)) (fail)
        go_wp2
        go_ret
        exact ⟨rfl, h3.out, ht0.out.trans ht.out⟩
    | none =>
      have eT : T = fun _ => none := hm
      by_cases hx0 : x = 0
      · have eT2 := hidden (show T2 = T by rw [← hT2.out, if_pos hx0, eT]; funext t; unfold dropK; split <;> rfl)
        have hxb : (x == 0) = true := by simpa using hx0
        obtain ⟨ky, hky⟩ := cel_enc.key (c, d) q1.out.isIn
        have hrun := Maps.drop_nil (w := wa.drew) cel_enc.law Tryd.underlying25 hky 0
        have hcs := hidden (And.intro c0 (And.intro k0 k1))
        have ha2 := hidden (ha.out.same (w' := wa.drew) fun _ _ => rfl)
        have ht := hidden (ht0.out.trans (Trd.drew wa))
        clear hg1 hm hgl hsz hmB hql hx0 hn eT hT2 hky c0 k0 k1
        obtain ⟨c0, k0, k1⟩ := hcs.out
        go_wp2_with fail
        go_region_held3 (fun W => W.cell? ⟨g, 0, none⟩ = some (.map none) ∧ W.cell? ⟨w.heap.size, 0, none⟩ = some (.int .i64 c) ∧ W.cell? ⟨w.heap.size, 1, none⟩ = some (.int .i64 d))
          ((first | exact ⟨c0, k0, k1⟩ | assumption)) (fail)
        go_wp2
        go_ret
        exact ⟨rfl, by rw [eT2.out]; exact ha2.out.mono (Nat.le_succ _), ht.out⟩
      · have eT3 : updK T (c, d) x = T2 := by rw [← hT2.out, if_neg hx0]
        have hxb : (x == 0) = false := by simpa using hx0
        have hg1' : (wa.alloc (.map #[] 0)).heap[g]? = some (.cells #[.map none] 27 (0, 0)) := by rw [heap_alloc_old _ _ (Array.getElem?_eq_some_iff.1 hg1).1]; exact hg1
        have fz : (wa.alloc (.map #[] 0)).frozen? ⟨g, 0, none⟩ = false := by simp [World.frozen?, hg1']
        have c0a : (wa.alloc (.map #[] 0)).cell? ⟨g, 0, none⟩ = some (.map none) := by rw [cell_of_row _ _ _ _ _ _ hg1']; rfl
        obtain ⟨q3, q4, q5⟩ := loAt_first ha.out hg1 hBa.out
        obtain ⟨w3, hrun, h3, ht3⟩ := loAt_put q3 q4 hBa.out ha.out.low ha.out.lo hn q1.out q2.out hx0
        rw [eT3] at h3
        replace h3 := hidden h3
        have cm : ((wa.alloc (.map #[] 0)).setCell ⟨g, 0, none⟩ (.map (some wa.heap.size))).cell? ⟨g, 0, none⟩ = some (.map (some wa.heap.size)) := by rw [cell_of_row _ _ _ _ _ _ q3]; rfl
        have ck : ∀ j u, wa.cell? ⟨w.heap.size, j, none⟩ = some u → ((wa.alloc (.map #[] 0)).setCell ⟨g, 0, none⟩ (.map (some wa.heap.size))).cell? ⟨w.heap.size, j, none⟩ = some u := fun j u hu => by
          rw [World.cell?_of_block (w := wa) (q5.block _ (World.block_lt_of_cell? _ _ hu) (fun e => by
            rcases e with e | e
            · exact hgne e
            · rw [c0] at e; cases e))]
          exact hu
        have hgla := (Array.getElem?_eq_some_iff.1 hg1).1
        have s2 := hidden (show _ ∧ _ ∧ _ from ⟨cm, ck _ _ k0, ck _ _ k1⟩)
        have s3 := hidden (three_cells ht3 (by omega) (by omega) cm (ck _ _ k0) (ck _ _ k1))
        have htm := hidden (q5.trans' ht3 (fun k hk hk2 => by omega))
        rw [hql.out] at htm
        have qe := lossEq_nil
        have hmm := @run_makeMap Tryd.prog
        clear q3 q4 q5 cm ck hg1 hg1' hm hgl hsz hmB hql hx0 hn eT eT3 hT2 ht3 hgla k0 k1
        go_wp2_with fail
        go_region_held3 (fun W => W.cell? ⟨g, 0, none⟩ = some (.map (some wa.heap.size)) ∧ W.cell? ⟨w.heap.size, 0, none⟩ = some (.int .i64 c) ∧ W.cell? ⟨w.heap.size, 1, none⟩ = some (.int .i64 d))
          ((first | exact s2.out | exact s3.out)) (fail)
        go_wp2
        go_ret
        exact ⟨rfl, h3.out, ht0.out.trans htm.out⟩
end Go.Proofs.YtlanggdmdpjfbaaDoor
