/-
  Set.
-/
import Derived.Test.YtghkmagofadkfaaDoorCaps2
namespace Go.Proofs.YtghkmagofadkfaaDoor
open Go.RowKit Go.Maps Go.MapKept
set_option linter.unusedVariables false

theorem top_flip (k : Int) (w : World) : Calls Tryd.prog 24 #[.int .i64 k] w fun e w' => e = .returned (.int .i64 (lmTop k)) ∧ w' = w := (top_any k w).mono fun _ _ ⟨a, b⟩ => ⟨a, b.symm⟩
theorem capEq_some (b : Nat) (w : World) : (binOp .eql 27 (.map (some b)) (.map none)).run Tryd.prog w = .ok (.bool false) w := by kernel_rfl
theorem capEq_nil (w : World) : (binOp .eql 27 (.map none) (.map none)).run Tryd.prog w = .ok (.bool true) w := by kernel_rfl
theorem cpAt_of {w : World} {B g n b : Nat} {T : CTab} (hg : w.heap[g]? = some (.cells #[.map (some b)] 29 (0, 0))) (hK : KeyTab Tryd.prog 25 2 .i64 lmV lmIn w b n T) (hB : B ≤ b) (hB2 : B ≤ g) (hT : CaT T) : CpAt w B g n T :=
  ⟨⟨some b, hg, hK, fun b' e => by cases e; exact hB⟩, hB2, hT⟩
theorem cpAt_put {w : World} {B g n b : Nat} {T : CTab} (hg : w.heap[g]? = some (.cells #[.map (some b)] 29 (0, 0)))
    (hK : KeyTab Tryd.prog 25 2 .i64 lmV lmIn w b n T) (hB : B ≤ b) (hB2 : B ≤ g) (hT : CaT T) (hn : n < 1000000) {c d x : Int} (hs : lmOk (c, d)) (h0 : 0 < x) (hx : x ≤ 1000000000000000) :
    ∃ w', (Instr.mapUpdate 27 (.map (some b)) (.agg #[.int .i64 c, .int .i64 d]) (.int .i64 x)).run Tryd.prog w.drew = .ok () w' ∧ CpAt w' B g (n + 1) (updK T (c, d) x) ∧ Trd (· = b) w w' := by
  obtain ⟨w', hrun, hK', hgr⟩ := (KeyTab.block (w' := w.drew) hK rfl).put lm_enc Tryd.underlying27 Tryd.underlying2 (by unfold maxLen; omega) (c, d) hs.isIn x (WalkArith.wf_i64 (by omega))
  have hne : g ≠ b := by
    rintro rfl
    obtain ⟨es, c, he⟩ := hK.isMap
    rw [hg] at he
    cases he
  have hgl := (Array.getElem?_eq_some_iff.1 hg).1
  exact ⟨w', hrun, cpAt_of ((hgr.block g hgl (fun e => hne (Option.some.inj e))).trans hg) hK' hB hB2 (hT.upd hs h0 hx), (Trd.drew w).trans (Trd.grown hgr fun k e => (Option.some.inj e).symm)⟩
theorem cpAt_drop {w : World} {B g n b : Nat} {T : CTab} (hg : w.heap[g]? = some (.cells #[.map (some b)] 29 (0, 0)))
    (hK : KeyTab Tryd.prog 25 2 .i64 lmV lmIn w b n T) (hB : B ≤ b) (hB2 : B ≤ g) (hT : CaT T) {c d : Int} (hs : lmOk (c, d)) (ty : TypeId) :
    ∃ w', (Builtin.delete_ #[27, 25] ty #[.map (some b), .agg #[.int .i64 c, .int .i64 d]]).run Tryd.prog w.drew = .ok (.tuple #[]) w' ∧ CpAt w' B g n (dropK T (c, d)) ∧ Trd (· = b) w w' := by
  obtain ⟨w', hrun, hK', hturn⟩ := (KeyTab.block (w' := w.drew) hK rfl).drop lm_enc Tryd.underlying27 (c, d) hs.isIn ty
  have hgr := hturn.grown
  have hne : g ≠ b := by
    rintro rfl
    obtain ⟨es, c, he⟩ := hK.isMap
    rw [hg] at he
    cases he
  have hgl := (Array.getElem?_eq_some_iff.1 hg).1
  exact ⟨w', hrun, cpAt_of ((hgr.block g hgl (fun e => hne (Option.some.inj e))).trans hg) hK' hB hB2 (hT.drop _), (Trd.drew w).trans (Trd.grown hgr fun k e => (Option.some.inj e).symm)⟩
theorem cpAt_first {w : World} {B g n : Nat} {T : CTab} (h : CpAt w B g n T) (hg : w.heap[g]? = some (.cells #[.map none] 29 (0, 0))) (hB : B ≤ w.heap.size) :
    ((w.alloc (.map #[] 0)).setCell ⟨g, 0, none⟩ (.map (some w.heap.size))).heap[g]? = some (.cells #[.map (some w.heap.size)] 29 (0, 0)) ∧
    KeyTab Tryd.prog 25 2 .i64 lmV lmIn ((w.alloc (.map #[] 0)).setCell ⟨g, 0, none⟩ (.map (some w.heap.size))) w.heap.size n T ∧ Trd (cpB w g) w ((w.alloc (.map #[] 0)).setCell ⟨g, 0, none⟩ (.map (some w.heap.size))) := by
  obtain ⟨m, hg2, hm, _⟩ := h.ex
  rw [hg] at hg2
  simp only [Option.some.injEq, Obj.cells.injEq, Array.mk.injEq, List.cons.injEq, Value.map.injEq, and_true] at hg2
  obtain rfl := hg2
  obtain rfl : T = fun _ => none := hm
  have hlt := h.lt
  have hg3 : (w.alloc (.map #[] 0)).heap[g]? = some (.cells #[.map none] 29 (0, 0)) := by rw [heap_alloc_old _ _ hlt]; exact hg
  refine ⟨heap_setCell_row hg3 _, ?_, (Trd.alloc w _).trans (Trd.setCell _ _ _ (.inl rfl))⟩
  have h0 : KeyTab Tryd.prog 25 2 .i64 lmV lmIn (w.alloc (.map #[] 0)) w.heap.size 0 (fun _ => none) := keyTab_made w
  obtain ⟨D, h1, h2⟩ := h0.block (w' := (w.alloc (.map #[] 0)).setCell ⟨g, 0, none⟩ (.map (some w.heap.size))) (Below.heap_setCell _ _ _ _ (by simp only; omega))
  exact ⟨D, h1.mono (Nat.zero_le _), h2⟩
theorem lmTop_bd (k : Int) : 0 ≤ lmTop k ∧ lmTop k ≤ 32 := by
  unfold lmTop
  split
  · omega
  · split
    · omega
    · split <;> omega
/-- the world behind the argument's box. -/
theorem box_drew (w : World) (o : Obj) (k : Nat) : Below w.heap.size w ((w.alloc o).drewN k) := ((Below.refl _ w).alloc (Nat.le_refl _) o).trans ⟨rfl, rfl, rfl, Nat.le_refl _, fun _ _ => rfl⟩
def CpSetAt (A : Nat → Addr) (B g n : Nat) (T : CTab) (s : LimT) (x : Int) (w : World) (e : Ending) (w' : World) : Prop :=
  e = .returned (errOf A (setCC s x)) ∧ CpAt w' B g (n + 1) (setCT T s x) ∧ Trd (cpB w g) w w'
theorem set_no_ways (c d x : Int) (h : ¬ (lmOk (c, d) ∧ monOk x)) : d < 1 ∨ (1 ≤ d ∧ lmTop c < d) ∨ (1 ≤ d ∧ d ≤ lmTop c ∧ x < 0) ∨ (1 ≤ d ∧ d ≤ lmTop c ∧ 0 ≤ x ∧ 1000000000000000 < x) := by
  unfold lmOk monOk at h
  simp only at h
  omega
set_option maxRecDepth 100000 in
set_option maxHeartbeats 3200000 in
theorem cpSet_no (A : Nat → Addr) (w : World) (B g n : Nat) (T : CTab) (h : CpAt w B g n T) (s : LimT) (x : Int) (hE : ErrsOn [2] w A) (hno : ¬ (lmOk s ∧ monOk x)) :
    Calls Tryd.prog 11 #[.pointer (some ⟨g, 0, none⟩), lmV s, .int .i64 x] w (CpSetAt A B g n T s x w) := by
  obtain ⟨c, d⟩ := s
  have c2 : w.cell? ⟨0, 0, none⟩ = some (errAt (A 2)) := hE 2 (by simp)
  have c3 : (w.alloc (lmO (c, d))).cell? ⟨0, 0, none⟩ = some (errAt (A 2)) := by
    rw [World.cell?_alloc_lt _ _ _ (World.block_lt_of_cell? w _ c2)]; exact c2
  have hb := hidden (fun k => box_drew w (lmO (c, d)) k)
  have hw := set_no_ways c d x hno
  have ht := lmTop_bd c
  have hT := hidden (fun w => top_flip c w)
  unfold CpSetAt setCC setCT
  rw [if_neg hno, if_neg hno]
  replace h := hidden h
  clear hno hE c2
  generalize lmTop c = t at *
  rcases hw with t1 | ⟨t1, t2⟩ | ⟨t1, t2, t3⟩ | ⟨t1, t2, t3, t4⟩
  all_goals
    go_enter Tryd.func11, Tryd.ntmps11
    go_wp2_with fail
    go_quiet ((go_at_call 24; exact Calls.quiet_of_same (hT.out _)))
    go_wp2
    go_ret
    exact ⟨rfl, (h.out.below (hb.out _) (Nat.le_refl _)).mono (Nat.le_succ _), Trd.of_below (hb.out _) (Nat.le_refl _)⟩
theorem box_cells (w : World) (c d : Int) (k : Nat) : ((w.alloc (lmO (c, d))).drewN k).cell? ⟨w.heap.size, 0, none⟩ = some (.int .i64 c) ∧ ((w.alloc (lmO (c, d))).drewN k).cell? ⟨w.heap.size, 1, none⟩ = some (.int .i64 d) :=
  lm_cells w _ c d ⟨rfl, rfl, rfl, Nat.le_refl _, fun _ _ => rfl⟩
theorem CpAt.ne_box {w : World} {B g n b : Nat} {T : CTab} (h : CpAt w B g n T) : g ≠ w.heap.size := by have := h.lt; omega
set_option maxRecDepth 100000 in
set_option maxHeartbeats 3200000 in
theorem cpSet_drop (A : Nat → Addr) (w : World) (B g n : Nat) (T : CTab) (h : CpAt w B g n T) (s : LimT) (hs : lmOk s) :
    Calls Tryd.prog 11 #[.pointer (some ⟨g, 0, none⟩), lmV s, .int .i64 0] w (CpSetAt A B g n T s 0 w) := by
  obtain ⟨c, d⟩ := s
  have hb := hidden (fun k => box_drew w (lmO (c, d)) k)
  have hcs := hidden (fun k => box_cells w c d k)
  have hT := hidden (fun w => top_flip c w)
  have e1 : 1 ≤ d := hs.1
  have e2 : d ≤ lmTop c := hs.2
  have ht := lmTop_bd c
  unfold CpSetAt setCC setCT
  have hm0 : monOk 0 := by unfold monOk; omega
  rw [if_pos ⟨hs, hm0⟩, if_pos ⟨hs, hm0⟩, if_pos rfl]
  generalize lmTop c = t at *
  obtain ⟨m, hg, hm, hmB⟩ := h.ex
  have hgl := h.lt
  replace h := hidden h
  replace hs := hidden hs
  cases m with
  | some b =>
    replace hm : KeyTab _ _ _ _ _ _ w b n T := hm
    have hbB := hidden (hmB b rfl)
    replace hm := hidden hm
    replace hg := hidden hg
    clear hmB
    go_enter Tryd.func11, Tryd.ntmps11
    go_wp2_with fail
    go_quiet ((go_at_call 24; exact Calls.quiet_of_same (hT.out _)))
    obtain ⟨k0, k1⟩ := hcs.out nq
    have hb1 := hidden (hb.out nq)
    clear hb hcs hT
    have e3 : (World.drewN (w.alloc (lmO (c, d))) nq) = World.drewN (w.alloc (lmO (c, d))) nq := rfl
    generalize World.drewN (w.alloc (lmO (c, d))) nq = w1 at *
    have hg1 := (hb1.out.block _ hgl).trans hg.out
    have c0 : w1.cell? ⟨g, 0, none⟩ = some (.map (some b)) := by rw [cell_of_row _ _ _ _ _ _ hg1]; rfl
    obtain ⟨w3, hrun, h3, ht3⟩ := cpAt_drop hg1 (hm.out.block (hb1.out.block _ hm.out.lt)) hbB.out h.out.low h.out.ho hs.out 0
    replace h3 := hidden h3
    have hne : g ≠ b := by
      obtain ⟨es, c, hes⟩ := hm.out.isMap
      exact h.out.ne_map hes
    have hne2 : w.heap.size ≠ b := by have := hm.out.lt; omega
    have s3 := hidden (three_cells ht3 hne hne2 c0 k0 k1)
    have ht4 := hidden (Trd.mono (S' := cpB w g) ht3 (fun k e => .inr (by rw [e, cell_of_row _ _ _ _ _ _ hg.out]; rfl)))
    have ht1 := hidden (Trd.of_below (S := cpB w g) hb1.out (Nat.le_refl _))
    clear hg1 ht3 hg hm hs h hne hne2 hb1 hbB e3
    go_wp2_with fail
    go_region_held3 (fun W => W.cell? ⟨g, 0, none⟩ = some (.map (some b)) ∧ W.cell? ⟨w.heap.size, 0, none⟩ = some (.int .i64 c) ∧ W.cell? ⟨w.heap.size, 1, none⟩ = some (.int .i64 d))
      ((first | exact ⟨c0, k0, k1⟩ | exact s3.out)) (fail)
    go_wp2
    go_ret
    exact ⟨rfl, h3.out.mono (Nat.le_succ _), ht1.out.trans ht4.out⟩
  | none =>
    obtain rfl : T = fun _ => none := hm
    have hd : dropK (fun _ => none) (c, d) = (fun _ => none : CTab) := by funext z; unfold dropK; split <;> rfl
    rw [hd]
    have hrun := fun W => Maps.drop_nil (w := W) lm_enc.law Tryd.underlying27 (lm_key (lmOk.isIn hs.out).1.1 (lmOk.isIn hs.out).1.2 (lmOk.isIn hs.out).2.1 (lmOk.isIn hs.out).2.2) 0
    simp only at hrun
    go_enter Tryd.func11, Tryd.ntmps11
    go_wp2_with fail
    go_quiet ((go_at_call 24; exact Calls.quiet_of_same (hT.out _)))
    obtain ⟨k0, k1⟩ := hcs.out nq
    have hb1 := hidden (hb.out nq)
    clear hb hcs hT
    generalize World.drewN (w.alloc (lmO (c, d))) nq = w1 at *
    have hg1 := (hb1.out.block _ hgl).trans hg
    have c0 : w1.cell? ⟨g, 0, none⟩ = some (.map none) := by rw [cell_of_row _ _ _ _ _ _ hg1]; rfl
    have hr1 := hrun w1.drew
    clear hg1 hg hs hrun hd hmB
    go_wp2_with fail
    go_region_held3 (fun W => W.cell? ⟨g, 0, none⟩ = some (.map none) ∧ W.cell? ⟨w.heap.size, 0, none⟩ = some (.int .i64 c) ∧ W.cell? ⟨w.heap.size, 1, none⟩ = some (.int .i64 d))
      ((first | exact ⟨c0, k0, k1⟩)) (fail)
    go_wp2
    go_ret
    exact ⟨rfl, (h.out.below (below_drewN (m := 1) hb1.out) (Nat.le_refl _)).mono (Nat.le_succ _), Trd.of_below (below_drewN (m := 1) hb1.out) (Nat.le_refl _)⟩
set_option maxRecDepth 100000 in
set_option maxHeartbeats 3200000 in
theorem cpSet_put (A : Nat → Addr) (w : World) (B g n : Nat) (T : CTab) (h : CpAt w B g n T) (hB : B ≤ w.heap.size) (hn : n < 1000000) (s : LimT) (x : Int) (hs : lmOk s) (hx0 : 0 < x) (hx1 : x ≤ 1000000000000000) :
    Calls Tryd.prog 11 #[.pointer (some ⟨g, 0, none⟩), lmV s, .int .i64 x] w (CpSetAt A B g n T s x w) := by
  obtain ⟨c, d⟩ := s
  have hb := hidden (fun k => box_drew w (lmO (c, d)) k)
  have hbz := hidden (fun k => show ((w.alloc (lmO (c, d))).drewN k).heap.size = w.heap.size + 1 by show (w.alloc (lmO (c, d))).heap.size = _; simp)
  have hcs := hidden (fun k => box_cells w c d k)
  have hT := hidden (fun w => top_flip c w)
  have e1 : 1 ≤ d := hs.1
  have e2 : d ≤ lmTop c := hs.2
  have ht := lmTop_bd c
  unfold CpSetAt setCC setCT
  have hm0 : monOk x := by unfold monOk; omega
  rw [if_pos ⟨hs, hm0⟩, if_pos ⟨hs, hm0⟩, if_neg (by omega)]
  generalize lmTop c = t at *
  obtain ⟨m, hg, hm, hmB⟩ := h.ex
  have hgl := h.lt
  replace h := hidden h
  replace hs := hidden hs
  have hxb : (x == 0) = false := by simp; omega
  have z1 : decide (x < 0) = false := decide_eq_false (by omega)
  have z2 : decide (1000000000000000 < x) = false := decide_eq_false (by omega)
  replace hx0 := hidden hx0
  replace hx1 := hidden hx1
  cases m with
  | some b =>
    replace hm : KeyTab _ _ _ _ _ _ w b n T := hm
    have hbB := hidden (hmB b rfl)
    replace hm := hidden hm
    replace hg := hidden hg
    have qe := capEq_some b
    clear hmB hm0
    go_enter Tryd.func11, Tryd.ntmps11
    go_wp2_with fail
    go_quiet ((go_at_call 24; exact Calls.quiet_of_same (hT.out _)))
    obtain ⟨k0, k1⟩ := hcs.out nq
    have hb1 := hidden (hb.out nq)
    clear hb hcs hT hbz
    generalize World.drewN (w.alloc (lmO (c, d))) nq = w1 at *
    have hg1 := (hb1.out.block _ hgl).trans hg.out
    have c0 : w1.cell? ⟨g, 0, none⟩ = some (.map (some b)) := by rw [cell_of_row _ _ _ _ _ _ hg1]; rfl
    obtain ⟨w3, hrun, h3, ht3⟩ := cpAt_put hg1 (hm.out.block (hb1.out.block _ hm.out.lt)) hbB.out h.out.low h.out.ho hn hs.out hx0.out hx1.out
    replace h3 := hidden h3
    have hne : g ≠ b := by
      obtain ⟨es, c, hes⟩ := hm.out.isMap
      exact h.out.ne_map hes
    have hne2 : w.heap.size ≠ b := by have := hm.out.lt; omega
    have s3 := hidden (three_cells ht3 hne hne2 c0 k0 k1)
    have ht4 := hidden (Trd.mono (S' := cpB w g) ht3 (fun k e => .inr (by rw [e, cell_of_row _ _ _ _ _ _ hg.out]; rfl)))
    have ht1 := hidden (Trd.of_below (S := cpB w g) hb1.out (Nat.le_refl _))
    clear hg1 ht3 hg hm hs h hn hne hne2 hb1 hbB
    go_wp2_with fail
    go_region_held3 (fun W => W.cell? ⟨g, 0, none⟩ = some (.map (some b)) ∧ W.cell? ⟨w.heap.size, 0, none⟩ = some (.int .i64 c) ∧ W.cell? ⟨w.heap.size, 1, none⟩ = some (.int .i64 d))
      ((first | exact ⟨c0, k0, k1⟩ | exact s3.out)) (fail)
    go_wp2
    go_ret
    exact ⟨rfl, h3.out, ht1.out.trans ht4.out⟩
  | none =>
    have hbB := hidden hB
    replace hg := hidden hg
    have qe := capEq_nil
    have hmm := @run_makeMap Tryd.prog
    clear hmB hm hm0
    go_enter Tryd.func11, Tryd.ntmps11
    go_wp2_with fail
    go_quiet ((go_at_call 24; exact Calls.quiet_of_same (hT.out _)))
    obtain ⟨k0, k1⟩ := hcs.out nq
    have hb1 := hidden (hb.out nq)
    have hsz := hbz.out nq
    clear hb hcs hT hbz
    generalize World.drewN (w.alloc (lmO (c, d))) nq = w1 at *
    have hg1 := (hb1.out.block _ hgl).trans hg.out
    have c0 : w1.cell? ⟨g, 0, none⟩ = some (.map none) := by rw [cell_of_row _ _ _ _ _ _ hg1]; rfl
    have hg1' : (w1.alloc (.map #[] 0)).heap[g]? = some (.cells #[.map none] 29 (0, 0)) := by rw [heap_alloc_old _ _ (Array.getElem?_eq_some_iff.1 hg1).1]; exact hg1
    have fz : (w1.alloc (.map #[] 0)).frozen? ⟨g, 0, none⟩ = false := by simp [World.frozen?, hg1']
    have c0a : (w1.alloc (.map #[] 0)).cell? ⟨g, 0, none⟩ = some (.map none) := by rw [cell_of_row _ _ _ _ _ _ hg1']; rfl
    have h1 := h.out.below hb1.out (Nat.le_refl _)
    have hB1 := Nat.le_trans hbB.out hb1.out.size
    obtain ⟨q1, q2, q3⟩ := cpAt_first h1 hg1 hB1
    obtain ⟨w3, hrun, h3, ht3⟩ := cpAt_put q1 q2 hB1 h.out.low h.out.ho hn hs.out hx0.out hx1.out
    replace h3 := hidden h3
    have hgne : w.heap.size ≠ g := by omega
    have cm : ((w1.alloc (.map #[] 0)).setCell ⟨g, 0, none⟩ (.map (some w1.heap.size))).cell? ⟨g, 0, none⟩ = some (.map (some w1.heap.size)) := by rw [cell_of_row _ _ _ _ _ _ q1]; rfl
    have ck : ∀ j u, w1.cell? ⟨w.heap.size, j, none⟩ = some u → ((w1.alloc (.map #[] 0)).setCell ⟨g, 0, none⟩ (.map (some w1.heap.size))).cell? ⟨w.heap.size, j, none⟩ = some u := fun j u hu => by
      rw [World.cell?_of_block (w := w1) (q3.block _ (World.block_lt_of_cell? _ _ hu) (fun e => by
        rcases e with e | e
        · exact hgne e
        · rw [c0] at e; cases e))]
      exact hu
    have s2 := hidden (show _ ∧ _ ∧ _ from ⟨cm, ck _ _ k0, ck _ _ k1⟩)
    have s3 := hidden (three_cells ht3 (by omega) (by omega) cm (ck _ _ k0) (ck _ _ k1))
    have htm := hidden (q3.trans' ht3 (fun k hk hk2 => by omega))
    have ql := cpB_below h.out hb1.out
    have ht1 := hidden (Trd.of_below (S := cpB w g) hb1.out (Nat.le_refl _))
    rw [ql] at htm
    clear q1 q2 q3 cm ck hg1 hg1' hg hs hn h1 hB1 hbB ht3 hgne ql hsz
    go_wp2_with fail
    go_region_held3 (fun W => W.cell? ⟨g, 0, none⟩ = some (.map (some w1.heap.size)) ∧ W.cell? ⟨w.heap.size, 0, none⟩ = some (.int .i64 c) ∧ W.cell? ⟨w.heap.size, 1, none⟩ = some (.int .i64 d))
      ((first | exact s2.out | exact s3.out)) (fail)
    go_wp2
    go_ret
    exact ⟨rfl, h3.out, ht1.out.trans htm.out⟩
theorem cpSet_any (A : Nat → Addr) (w : World) (B g n : Nat) (T : CTab) (h : CpAt w B g n T) (hB : B ≤ w.heap.size) (hn : n < 1000000) (s : LimT) (x : Int) (hE : ErrsOn [2] w A) :
    Calls Tryd.prog 11 #[.pointer (some ⟨g, 0, none⟩), lmV s, .int .i64 x] w (CpSetAt A B g n T s x w) := by
  by_cases hno : lmOk s ∧ monOk x
  · by_cases hx : x = 0
    · subst hx
      exact cpSet_drop A w B g n T h s hno.1
    · have := hno.2
      unfold monOk at this
      exact cpSet_put A w B g n T h hB hn s x hno.1 (by omega) (by omega)
  · exact cpSet_no A w B g n T h s x hE hno
end Go.Proofs.YtghkmagofadkfaaDoor
