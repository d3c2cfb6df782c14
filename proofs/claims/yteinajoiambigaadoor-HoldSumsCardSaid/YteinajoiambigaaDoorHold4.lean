/-
  Put.
-/
import Derived.Test.YteinajoiambigaaDoorHold3
namespace Go.Proofs.YteinajoiambigaaDoor
open Go.RowKit Go.Maps Go.MapKept
set_option linter.unusedVariables false

theorem holdEq_some (b : Nat) (w : World) : (binOp .eql 25 (.map (some b)) (.map none)).run Tryd.prog w = .ok (.bool false) w := by kernel_rfl
theorem holdEq_nil (w : World) : (binOp .eql 25 (.map none) (.map none)).run Tryd.prog w = .ok (.bool true) w := by kernel_rfl
/-- 'm[k] += q': what is looked up, the entry, its store. -/
theorem hoAt_add {w : World} {B g n b : Nat} {T : HTab} (hg : w.heap[g]? = some (.cells #[.map (some b)] 27 (0, 0)))
    (hK : KeyTab Tryd.prog 31 2 .i64 sptV spIn w b n T) (hB : B ≤ b) (hB2 : B ≤ g) (hT : HoT T) (hn : n < 1000000) {c d x : Int} (hs : spOk (c, d)) (hx : qtOk x) :
    (Instr.lookup 25 (.map (some b)) (.agg #[.int .i64 c, .int .i64 d]) false).run Tryd.prog w.drew = .ok (.int .i64 (getQ T (c, d))) w.drew ∧
    ∃ v0 sv w1 w', (Instr.mapEntry 25 (.map (some b)) (.agg #[.int .i64 c, .int .i64 d])).run Tryd.prog w.drew = .ok (.tuple #[v0, sv]) w1 ∧ Trd (· = b) w w1 ∧ (Instr.lookup 25 (.map (some b)) (.agg #[.int .i64 c, .int .i64 d]) false).run Tryd.prog w1 = .ok (.int .i64 (getQ T (c, d))) w1 ∧
      (Instr.entryStore 25 (.map (some b)) sv (.int .i64 x)).run Tryd.prog w1 = .ok () w' ∧ HoAt w' B g (n + 1) (updK T (c, d) x) ∧ Trd (· = b) w w' := by
  have hK0 : KeyTab Tryd.prog 31 2 .i64 sptV spIn w.drew b n T := hK.block rfl
  refine ⟨hK0.look rfl spot_enc Tryd.underlying25 Tryd.underlying2 (hold_zero _) (c, d) hs.isIn, ?_⟩
  obtain ⟨v0, st, w1, hrun, ht1, hst⟩ := hK0.entry spot_enc spot_law Tryd.underlying25 Tryd.underlying2 hold_zero (by unfold maxLen; omega) (c, d) hs.isIn
  have hlk := hK0.entry_look spot_enc spot_law Tryd.underlying25 Tryd.underlying2 hold_zero (by unfold maxLen; omega) (c, d) hs.isIn hrun (W := w1) rfl
  obtain ⟨w', hrun2, hK', ht2⟩ := hst w1 x rfl (WalkArith.wf_i64 (by unfold qtOk at hx; omega))
  have hne : g ≠ b := by
    rintro rfl
    obtain ⟨es, c, he⟩ := hK.isMap
    rw [hg] at he
    cases he
  have hgl := (Array.getElem?_eq_some_iff.1 hg).1
  have hgr := ht1.grown
  have hgr2 := (ht1.trans ht2).grown
  exact ⟨v0, _, w1, w', hrun, (Trd.drew w).trans (Trd.grown hgr fun k e => (Option.some.inj e).symm), hlk, hrun2, hoAt_of ((hgr2.block g hgl (fun e => hne (Option.some.inj e))).trans hg) hK' hB hB2 (hT.upd hs hx), (Trd.drew w).trans (Trd.grown hgr2 fun k e => (Option.some.inj e).symm)⟩
/-- a map is made for the first quantity. -/
theorem hoAt_first {w : World} {B g n : Nat} {T : HTab} (h : HoAt w B g n T) (hg : w.heap[g]? = some (.cells #[.map none] 27 (0, 0))) (hB : B ≤ w.heap.size) :
    ((w.alloc (.map #[] 0)).setCell ⟨g, 0, none⟩ (.map (some w.heap.size))).heap[g]? = some (.cells #[.map (some w.heap.size)] 27 (0, 0)) ∧
    KeyTab Tryd.prog 31 2 .i64 sptV spIn ((w.alloc (.map #[] 0)).setCell ⟨g, 0, none⟩ (.map (some w.heap.size))) w.heap.size n T ∧ Trd (hoB w g) w ((w.alloc (.map #[] 0)).setCell ⟨g, 0, none⟩ (.map (some w.heap.size))) := by
  obtain ⟨m, hg2, hm, _⟩ := h.ex
  rw [hg] at hg2
  simp only [Option.some.injEq, Obj.cells.injEq, Array.mk.injEq, List.cons.injEq, Value.map.injEq, and_true] at hg2
  obtain rfl := hg2
  obtain rfl : T = fun _ => none := hm
  have hlt := h.lt
  have hg3 : (w.alloc (.map #[] 0)).heap[g]? = some (.cells #[.map none] 27 (0, 0)) := by rw [heap_alloc_old _ _ hlt]; exact hg
  refine ⟨heap_setCell_row hg3 _, ?_, (Trd.alloc w _).trans (Trd.setCell _ _ _ (.inl rfl))⟩
  have h0 : KeyTab Tryd.prog 31 2 .i64 sptV spIn (w.alloc (.map #[] 0)) w.heap.size 0 (fun _ => none) := keyTab_made w
  obtain ⟨D, h1, h2⟩ := h0.block (w' := (w.alloc (.map #[] 0)).setCell ⟨g, 0, none⟩ (.map (some w.heap.size))) (Below.heap_setCell _ _ _ _ (by simp only; omega))
  exact ⟨D, h1.mono (Nat.zero_le _), h2⟩
set_option maxRecDepth 100000 in
set_option maxHeartbeats 3200000 in
theorem hoPut_any (A : Nat → Addr) (w : World) (B g n : Nat) (T : HTab) (h : HoAt w B g n T) (hB : B ≤ w.heap.size) (hn : n < 1000000) (s : SpotT) (q : Int) (hE : ErrsOn [2, 3] w A) :
    Calls Tryd.prog 8 #[.pointer (some ⟨g, 0, none⟩), sptV s, .int .i64 q] w (HoDone A B g n (putHC T s q) (putHT T s q) w) := by
  obtain ⟨c, d⟩ := s
  have c2 : w.cell? ⟨0, 0, none⟩ = some (errAt (A 2)) := hE 2 (by simp)
  have c12 : w.cell? ⟨2, 0, none⟩ = some (errAt (A 3)) := hE 3 (by simp)
  have hb0 := below_spt w (c, d)
  have hk := hidden (fun w' (h : Below (w.alloc (sptO (c, d))).heap.size (w.alloc (sptO (c, d))) w') => show w'.cell? ⟨0, 0, none⟩ = some (errAt (A 2)) ∧ w'.cell? ⟨2, 0, none⟩ = some (errAt (A 3)) by
    have hb := hb0.trans (h.mono hb0.size)
    exact ⟨by rw [World.cell?_of_block (w := w) (hb.block _ (World.block_lt_of_cell? _ _ c2))]; exact c2, by rw [World.cell?_of_block (w := w) (hb.block _ (World.block_lt_of_cell? _ _ c12))]; exact c12⟩)
  have hbw := hidden (fun w' (h : Below (w.alloc (sptO (c, d))).heap.size (w.alloc (sptO (c, d))) w') => hb0.trans (h.mono hb0.size))
  have hcs := hidden (fun w' => spot_cells w w' c d)
  have hS := hidden (isSpot_any (c, d) (w.alloc (sptO (c, d))))
  have hC := hidden (fun W => isQty_any q W)
  have hG := hidden (fun W (hb : Below w.heap.size w W) (hs : spIn (c, d)) => hoGet_any W B g n T (h.below hb (Nat.le_refl _)) (c, d) hs)
  clear hE c2 c12 hb0
  unfold HoDone
  by_cases hs : spOk (c, d)
  · by_cases hq : qtOk q
    · have hC' := hidden (fun W => show Calls Tryd.prog 15 #[.int .i64 q] W (fun e w' => e = .returned (.bool true) ∧ W = w') by have := hC.out W; rwa [decide_eq_true hq] at this)
      have hS' := hS.out
      rw [decide_eq_true hs] at hS'
      replace hS := hidden hS'
      replace hC := hC'
      clear hC' hS'
      have hx := h.ho.get (c, d)
      replace hG := hidden (fun W hb => hG.out W hb hs.isIn)
      unfold putHC putHT
      rw [if_pos ⟨hs, hq⟩]
      by_cases hsh : 1000000000000 - getQ T (c, d) < q
      · rw [if_pos hsh, if_neg (fun e => e.2.2 hsh)]
        replace h := hidden h
        have hqn := hq
        unfold qtOk at hqn
        generalize getQ T (c, d) = x at *
        clear hs hq
        go_enter Tryd.func8, Tryd.ntmps8
        go_wp2_with fail
        refine hS.out.mono ?_
        rintro r w1 ⟨rfl, hb⟩
        obtain ⟨j0, j1⟩ := hcs.out _ hb
        replace hb := hidden hb
        clear hS
        go_wp2_with fail
        refine (hC.out _).mono ?_
        rintro r w2 ⟨rfl, rfl⟩
        clear hC
        go_wp2_with fail
        refine (hG.out _ (hbw.out _ hb.out)).mono ?_
        rintro r w2 ⟨rfl, hb2⟩
        obtain ⟨_, cE⟩ := hk.out _ (hb.out.trans (hb2.mono hb.out.size))
        have hb1 := hidden (hbw.out _ (hb.out.trans (hb2.mono hb.out.size)))
        clear hG hb2 hb hk hbw hcs j0 j1
        go_wp2
        go_ret
        exact ⟨rfl, (h.out.below hb1.out (Nat.le_refl _)).mono (Nat.le_succ _), Trd.of_below hb1.out (Nat.le_refl _)⟩
      · rw [if_neg hsh, if_pos ⟨hs, hq, hsh⟩]
        have hqn := hq
        unfold qtOk at hqn
        obtain ⟨m, hg, hm, hmB⟩ := h.ex
        have hgl := h.lt
        have hxq := hidden (show qtOk (getQ T (c, d) + q) by unfold qtOk; omega)
        cases m with
        | some b =>
          replace hm : KeyTab _ _ _ _ _ _ w b n T := hm
          have hbB := hidden (hmB b rfl)
          replace h := hidden h
          replace hg := hidden hg
          replace hm := hidden hm
          replace hs := hidden hs
          clear hmB
          have hA := hidden (fun W (hb : Below w.heap.size w W) => hoAt_add ((hb.block _ hgl).trans hg.out) (hm.out.block (hb.block _ hm.out.lt)) hbB.out h.out.low h.out.ho hn hs.out hxq.out)
          clear hxq
          generalize getQ T (c, d) = x at *
          have hwq : IntKind.i64.wrap (x + q) = x + q := by rw [IntKind.wrap_i64]; omega
          go_enter Tryd.func8, Tryd.ntmps8
          go_wp2_with fail
          refine hS.out.mono ?_
          rintro r w1 ⟨rfl, hb⟩
          obtain ⟨j0, j1⟩ := hcs.out _ hb
          replace hb := hidden hb
          clear hS
          go_wp2_with fail
          refine (hC.out _).mono ?_
          rintro r w2 ⟨rfl, rfl⟩
          clear hC
          go_wp2_with fail
          refine (hG.out _ (hbw.out _ hb.out)).mono ?_
          rintro r w2 ⟨rfl, hb2⟩
          clear j0 j1
          obtain ⟨k0, k1⟩ := hcs.out _ (hb.out.trans (hb2.mono hb.out.size))
          have hb1 := hidden (hbw.out _ (hb.out.trans (hb2.mono hb.out.size)))
          clear hG hb2 hb hk hbw hcs
          have hg1 := (hb1.out.block _ hgl).trans hg.out
          have c0 : w2.cell? ⟨g, 0, none⟩ = some (.map (some b)) := by rw [cell_of_row _ _ _ _ _ _ hg1]; rfl
          have hne : g ≠ b := by
            obtain ⟨es, c, hes⟩ := hm.out.isMap
            exact h.out.ne_map hes
          have hne2 : w.heap.size ≠ b := by have := hm.out.lt; omega
          have ht1 := hidden (Trd.of_below (S := hoB w g) hb1.out (Nat.le_refl _))
          have hbs : ∀ k, k = b → hoB w g k := fun k e => .inr (by rw [e, cell_of_row _ _ _ _ _ _ hg.out]; rfl)
          obtain ⟨hlook, v0, sv, w3, w4, hent, ht3, hlook2, hsto, h4, ht4⟩ := hA.out _ hb1.out
          replace h4 := hidden h4
          have s3 := hidden (three_cells ht3 hne hne2 c0 k0 k1)
          have s4 := hidden (three_cells ht4 hne hne2 c0 k0 k1)
          have ht := hidden (Trd.mono (S' := hoB w g) ht4 hbs)
          have qe := holdEq_some b
          clear hg1 ht3 ht4 hg hm hs h hn hne hne2 hbs hbB hb1 hA
          go_wp2_with fail
          go_region_held3 (fun W => W.cell? ⟨g, 0, none⟩ = some (.map (some b)) ∧ W.cell? ⟨w.heap.size, 0, none⟩ = some (.int .i64 c) ∧ W.cell? ⟨w.heap.size, 1, none⟩ = some (.int .i64 d))
            ((first | exact ⟨c0, k0, k1⟩ | exact s3.out | exact s4.out)) (fail)
          all_goals
            go_wp2
            go_ret
            exact ⟨rfl, h4.out, ht1.out.trans ht.out⟩
        | none =>
          have hbB := hidden hB
          replace h := hidden h
          replace hg := hidden hg
          replace hs := hidden hs
          have eT : T = noH := hm
          clear hmB hm
          generalize hx2 : getQ T (c, d) = x at *
          replace hx2 := hidden hx2
          have hwq : IntKind.i64.wrap (x + q) = x + q := by rw [IntKind.wrap_i64]; omega
          replace eT := hidden eT
          go_enter Tryd.func8, Tryd.ntmps8
          go_wp2_with fail
          refine hS.out.mono ?_
          rintro r w1 ⟨rfl, hb⟩
          obtain ⟨j0, j1⟩ := hcs.out _ hb
          replace hb := hidden hb
          clear hS
          go_wp2_with fail
          refine (hC.out _).mono ?_
          rintro r w2 ⟨rfl, rfl⟩
          clear hC
          go_wp2_with fail
          refine (hG.out _ (hbw.out _ hb.out)).mono ?_
          rintro r w2 ⟨rfl, hb2⟩
          clear j0 j1
          have hcs1 := hidden (hcs.out _ (hb.out.trans (hb2.mono hb.out.size)))
          have hb1 := hidden (hbw.out _ (hb.out.trans (hb2.mono hb.out.size)))
          have hsz : w.heap.size < w2.heap.size := Nat.lt_of_lt_of_le (by simp) (hb.out.trans (hb2.mono hb.out.size)).size
          clear hG hb2 hb hk hbw hcs
          have hg1 := (hb1.out.block _ hgl).trans hg.out
          have c0 : w2.cell? ⟨g, 0, none⟩ = some (.map none) := by rw [cell_of_row _ _ _ _ _ _ hg1]; rfl
          have hg1' : (w2.alloc (.map #[] 0)).heap[g]? = some (.cells #[.map none] 27 (0, 0)) := by rw [heap_alloc_old _ _ (Array.getElem?_eq_some_iff.1 hg1).1]; exact hg1
          have fz : (w2.alloc (.map #[] 0)).frozen? ⟨g, 0, none⟩ = false := by simp [World.frozen?, hg1']
          have c0a : (w2.alloc (.map #[] 0)).cell? ⟨g, 0, none⟩ = some (.map none) := by rw [cell_of_row _ _ _ _ _ _ hg1']; rfl
          have h1 := h.out.below hb1.out (Nat.le_refl _)
          have hB1 := Nat.le_trans hbB.out hb1.out.size
          obtain ⟨q1, q2, q3⟩ := hoAt_first h1 hg1 hB1
          obtain ⟨hlook, v0, sv, w3, w4, hent, ht3, hlook2, hsto, h4, ht4⟩ := hoAt_add q1 q2 hB1 h.out.low h.out.ho hn hs.out hxq.out
          rw [hx2.out] at hlook hlook2
          replace h4 := hidden h4
          have hgne : w.heap.size ≠ g := by omega
          have cm : ((w2.alloc (.map #[] 0)).setCell ⟨g, 0, none⟩ (.map (some w2.heap.size))).cell? ⟨g, 0, none⟩ = some (.map (some w2.heap.size)) := by rw [cell_of_row _ _ _ _ _ _ q1]; rfl
          have ck : ∀ j u, w2.cell? ⟨w.heap.size, j, none⟩ = some u → ((w2.alloc (.map #[] 0)).setCell ⟨g, 0, none⟩ (.map (some w2.heap.size))).cell? ⟨w.heap.size, j, none⟩ = some u := fun j u hu => by
            rw [World.cell?_of_block (w := w2) (q3.block _ (World.block_lt_of_cell? _ _ hu) (fun e => by
              rcases e with e | e
              · exact hgne e
              · rw [c0] at e; cases e))]
            exact hu
          obtain ⟨k0, k1⟩ := hcs1.out
          have s2 := hidden (show _ ∧ _ ∧ _ from ⟨cm, ck _ _ k0, ck _ _ k1⟩)
          have s3 := hidden (three_cells ht3 (by omega) (by omega) cm (ck _ _ k0) (ck _ _ k1))
          have s4 := hidden (three_cells ht4 (by omega) (by omega) cm (ck _ _ k0) (ck _ _ k1))
          have htm := hidden (q3.trans' ht4 (fun k hk hk2 => by omega))
          have qe := holdEq_nil
          have ql := hoB_below h.out hb1.out
          have ht1 := hidden (Trd.of_below (S := hoB w g) hb1.out (Nat.le_refl _))
          rw [ql] at htm
          have hmm := @run_makeMap Tryd.prog
          clear q1 q2 q3 cm ck hg1 hg1' hg hs hn h1 hB1 hbB ht3 ht4 hgne hsz ql eT hx2 hxq
          go_wp2_with fail
          go_region_held3 (fun W => W.cell? ⟨g, 0, none⟩ = some (.map (some w2.heap.size)) ∧ W.cell? ⟨w.heap.size, 0, none⟩ = some (.int .i64 c) ∧ W.cell? ⟨w.heap.size, 1, none⟩ = some (.int .i64 d))
            ((first | exact s2.out | exact s3.out | exact s4.out)) (fail)
          all_goals
            go_wp2
            go_ret
            exact ⟨rfl, h4.out, ht1.out.trans htm.out⟩
    · have hC' := hidden (fun W => show Calls Tryd.prog 15 #[.int .i64 q] W (fun e w' => e = .returned (.bool false) ∧ W = w') by have := hC.out W; rwa [decide_eq_false hq] at this)
      have hS' := hS.out
      rw [decide_eq_true hs] at hS'
      replace hS := hidden hS'
      unfold putHC putHT
      rw [if_neg (fun e => hq e.2), if_neg (fun e => hq e.2.1)]
      replace h := hidden h
      clear hs hq hcs hG hS' hC
      go_enter Tryd.func8, Tryd.ntmps8
      go_wp2_with fail
      refine hS.out.mono ?_
      rintro r w1 ⟨rfl, hb⟩
      obtain ⟨cE, _⟩ := hk.out _ hb
      have hb1 := hidden (hbw.out _ hb)
      clear hb hk hbw hS
      go_wp2_with fail
      refine (hC'.out _).mono ?_
      rintro r w2 ⟨rfl, rfl⟩
      go_wp2
      go_ret
      exact ⟨rfl, (h.out.below hb1.out (Nat.le_refl _)).mono (Nat.le_succ _), Trd.of_below hb1.out (Nat.le_refl _)⟩
  · have hS' := hS.out
    rw [decide_eq_false hs] at hS'
    replace hS := hidden hS'
    unfold putHC putHT
    rw [if_neg (fun e => hs e.1), if_neg (fun e => hs e.1)]
    replace h := hidden h
    clear hs hC hcs hG hS'
    go_enter Tryd.func8, Tryd.ntmps8
    go_wp2_with fail
    refine hS.out.mono ?_
    rintro r w1 ⟨rfl, hb⟩
    obtain ⟨cE, _⟩ := hk.out _ hb
    have hb1 := hidden (hbw.out _ hb)
    clear hb hk hbw hS
    go_wp2
    go_ret
    exact ⟨rfl, (h.out.below hb1.out (Nat.le_refl _)).mono (Nat.le_succ _), Trd.of_below hb1.out (Nat.le_refl _)⟩
end Go.Proofs.YteinajoiambigaaDoor
