/-
  A Master's block; Get, Add.
-/
import Derived.Test.YtbjiiddlpfjipaaDoorAssetLaw
import Derived.Test.YtbjiiddlpfjipaaDoorMem
import Derived.RegionTactic
import Derived.ChangeAlike
namespace Go.Proofs.YtbjiiddlpfjipaaDoor
open Go.RowKit
set_option linter.unusedVariables false

/-- block g is a master with this table. -/
structure TabAt (w : World) (g : Nat) (t : List As) : Prop where
  row : w.heap[g]? = some (.cells (t.flatMap asV).toArray 28 (0, 0))
  tab : Tab t
theorem TabAt.lt {w : World} {g : Nat} {t : List As} (h : TabAt w g t) : g < w.heap.size := (Array.getElem?_eq_some_iff.1 h.row).1
theorem TabAt.below {w w' : World} {g : Nat} {t : List As} (h : TabAt w g t) (hb : Below w.heap.size w w') : TabAt w' g t := ⟨by rw [hb.block _ h.lt]; exact h.row, h.tab⟩
theorem TabAt.trd {w w' : World} {g : Nat} {t : List As} {S : Nat → Prop} (h : TabAt w g t) (ht : Trd S w w') (hg : ¬ S g) : TabAt w' g t := ⟨by rw [ht.block _ h.lt hg]; exact h.row, h.tab⟩
theorem AsAt.trd {w w' : World} {g : Nat} {a : As} {S : Nat → Prop} (h : AsAt w g a) (ht : Trd S w w') (hg : ¬ S g) : AsAt w' g a := ⟨by rw [ht.block _ (Array.getElem?_eq_some_iff.1 h.row).1 hg]; exact h.row⟩
theorem TabAt.drew {w : World} {g : Nat} {t : List As} (h : TabAt w g t) : TabAt w.drew g t := ⟨h.row, h.tab⟩
theorem TabAt.drewN {w : World} {g : Nat} {t : List As} (h : TabAt w g t) (k : Nat) : TabAt (w.drewN k) g t := ⟨h.row, h.tab⟩
theorem TabAt.cells {w : World} {g : Nat} {t : List As} (h : TabAt w g t) (k : Nat) (hk : k < 33) :
    w.cell? ⟨g, k * 5, none⟩ = some (.int .i64 (t.getD k asZ).i) ∧ w.cell? ⟨g, k * 5 + 1, none⟩ = some (.int .i64 (t.getD k asZ).s) ∧ w.cell? ⟨g, k * 5 + 2, none⟩ = some (.int .i64 (t.getD k asZ).c) ∧ w.cell? ⟨g, k * 5 + 3, none⟩ = some (.int .i64 (t.getD k asZ).m) ∧ w.cell? ⟨g, k * 5 + 4, none⟩ = some (.int .i64 (t.getD k asZ).e) := by
  have key : ∀ j, j < 5 → w.cell? ⟨g, k * 5 + j, none⟩ = (asV (t.getD k asZ))[j]? := fun j hj => by
    rw [cell_of_row _ _ _ _ _ _ h.row, List.getElem?_toArray, flatR_at asV_len asZ t k j (by rw [h.tab.len]; exact hk) hj]
  exact ⟨key 0 (by omega), key 1 (by omega), key 2 (by omega), key 3 (by omega), key 4 (by omega)⟩
theorem TabAt.frozen {w : World} {g : Nat} {t : List As} (h : TabAt w g t) (j : Nat) : w.frozen? ⟨g, j, none⟩ = false := by
  have := h.row
  simp [World.frozen?, this]
theorem as_size : (Tryd.prog.info? 25).map (·.size) = some 5 := by kernel_rfl
theorem as_end {a : Act} {w : World} {fn : Func} {R : Ending → World → Prop} {p u : Tmp} {g : Nat} {x : As} {vb : Value}
    (h : fn.results = #[.cell p 25, .tmp u]) (hd : a.defers = []) (hp : a.tmps.getD p undef = .pointer (some ⟨g, 0, none⟩)) (hb : a.tmps.getD u undef = vb) (hg : w.heap[g]? = some (asO x))
    (hR : R (.returned (.tuple #[asA x, vb])) w) : bodyPost Tryd.prog fn R .ret a w := by
  subst hb
  exact bodyPost_ret (results_cell2 h _ _ _ _ _ _ _ hp hg Tryd.underlying25 rfl as_size) hd hR

theorem two_new (w : World) (a b : As) : ((w.alloc (asO a)).alloc (asO b)).drew.heap[w.heap.size]? = some (asO a) := by
  show ((w.alloc (asO a)).alloc (asO b)).heap[w.heap.size]? = _
  rw [heap_alloc_old _ _ (by simp)]
  exact heap_alloc_new w _
theorem below_two (w : World) (a b : As) : Below w.heap.size w ((w.alloc (asO a)).alloc (asO b)).drew := (((Below.refl _ w).alloc (Nat.le_refl _) _).alloc (by simp) _).drew
def gotA (t : List As) (i : Int) : As := if 1 ≤ i ∧ i ≤ 32 then t.getD i.toNat asZ else asZ
def gotB (t : List As) (i : Int) : Bool := decide (1 ≤ i ∧ i ≤ 32 ∧ there t i)
theorem got_no {t : List As} {i : Int} (h : inB i 1 32 = false) : gotA t i = asZ ∧ gotB t i = false := by
  have := inB_no h
  exact ⟨if_neg this, decide_eq_false fun q => this ⟨q.1, q.2.1⟩⟩
theorem got_yes {t : List As} (ht : Tab t) {k : Nat} (h : inB (k : Int) 1 32 = true) : gotA t (k : Int) = t.getD k asZ ∧ gotB t (k : Int) = ((t.getD k asZ).i == (k : Int)) ∧ k < 33 := by
  have h2 := inB_yes h
  refine ⟨by unfold gotA; rw [if_pos h2, Int.toNat_natCast], ?_, by omega⟩
  rw [Bool.eq_iff_iff, beq_iff_eq]
  unfold gotB there
  rw [decide_eq_true_iff, Int.toNat_natCast]
  rcases ht.at_ k (by omega) with q | ⟨q1, q2⟩
  · rw [q]
    show (_ ∧ _ ∧ (0 : Int) ≠ 0) ↔ (0 : Int) = k
    omega
  · rw [q1]; omega
set_option maxHeartbeats 1600000 in
theorem get_any (t : List As) (g : Nat) (i : Int) (w : World) (hT : TabAt w g t) :
    Calls Tryd.prog 17 #[.pointer (some ⟨g, 0, none⟩), .int .i64 i] w fun e w' => e = .returned (.tuple #[asA (gotA t i), .bool (gotB t i)]) ∧ Below w.heap.size w w' := by
  have hg := hT.lt
  by_cases hi : inB i 1 32 = true
  · obtain ⟨k, rfl⟩ : ∃ k : Nat, i = (k : Int) := ⟨i.toNat, by have := inB_yes hi; omega⟩
    obtain ⟨e1, e2, hk⟩ := got_yes hT.tab hi
    obtain ⟨c0, c1, c2, c3, c4⟩ := hT.cells k hk
    rw [e1, e2]
    obtain ⟨hi1, hi2⟩ := inB_yes hi
    clear e1 e2 hT
    generalize t.getD k asZ = a at *
    obtain ⟨i, s, c, m, e⟩ := a
    simp only at c0 c1 c2 c3 c4
    go_enter Tryd.func17, Tryd.ntmps17
    go_wp2_with (go_at_call 27; refine (asWithin_any _ _ _ _).mono ?_; rintro e w' ⟨rfl, rfl⟩)
    go_region
    all_goals
      go_wp2
      exact as_end rfl rfl rfl rfl (two_new w ⟨i, s, c, m, e⟩ ⟨i, s, c, m, e⟩) ⟨rfl, below_two w ⟨i, s, c, m, e⟩ ⟨i, s, c, m, e⟩⟩
  · have hi' : inB i 1 32 = false := by simpa using hi
    obtain ⟨e1, e2⟩ := got_no (t := t) hi'
    rw [e1, e2]
    clear e1 e2 hT hi
    go_enter Tryd.func17, Tryd.ntmps17
    go_wp2_with (go_at_call 27; refine (asWithin_any _ _ _ _).mono ?_; rintro e w' ⟨rfl, rfl⟩)
    exact as_end rfl rfl rfl rfl (heap_alloc_new w _) ⟨rfl, below_as w asZ⟩

/-- the master's block behind a new asset. -/
theorem TabAt.put {w : World} {g k : Nat} {t : List As} {a : As} (h : TabAt w g t) (hk : a.i = (k : Int)) (h1 : 1 ≤ a.i ∧ a.i ≤ 32) : TabAt (w.setCells g (k * 5) (asV a)) g (putA t a) := by
  refine ⟨?_, h.tab.put h1⟩
  have e : a.i.toNat = k := by omega
  have hl := flatR_len asV_len t
  rw [h.tab.len] at hl
  unfold putA
  rw [e, flatR_set asV_len t k a (by rw [h.tab.len]; omega), heap_setCells_row (asV a) (k * 5) w _ (by rw [hl, asV_len]; omega) h.row, asV_len, show (k + 1) * 5 = k * 5 + 5 by omega]
theorem addC_no {t : List As} {a : As} (h : ¬ AsOk a) : addC t a = 103 ∧ vC a = 103 ∧ nextT t a = t := by
  have e : addC t a = 103 := if_neg h
  exact ⟨e, if_neg h, by unfold nextT; rw [e]; rfl⟩
theorem addC_there {t : List As} {a : As} (h : AsOk a) (h2 : there t a.i) : addC t a = 107 ∧ vC a = 0 ∧ nextT t a = t ∧ gotB t a.i = true := by
  have e : addC t a = 107 := by unfold addC; rw [if_pos h, if_pos h2]
  exact ⟨e, if_pos h, by unfold nextT; rw [e]; rfl, decide_eq_true ⟨h.1.1.1, h.1.1.2, h2⟩⟩
theorem addC_new {t : List As} {a : As} (h : AsOk a) (h2 : ¬ there t a.i) : addC t a = 0 ∧ vC a = 0 ∧ nextT t a = putA t a ∧ gotB t a.i = false := by
  have e : addC t a = 0 := by unfold addC; rw [if_pos h, if_neg h2]
  exact ⟨e, if_pos h, by unfold nextT; rw [e]; rfl, decide_eq_false fun q => h2 q.2.2⟩
/-- what Add leaves. -/
def AddAt (A : Nat → Addr) (t : List As) (g : Nat) (a : As) (w : World) (e : Ending) (w' : World) : Prop := e = .returned (errOf A (addC t a)) ∧ TabAt w' g (nextT t a) ∧ Trd (· = g) w w'
set_option maxHeartbeats 3200000 in
theorem add_any10 (A : Nat → Addr) (t : List As) (g : Nat) (a : As) (w : World) (hT : TabAt w g t) (hE : ErrsOn [2, 6] w A) :
    Calls Tryd.prog 12 #[.pointer (some ⟨g, 0, none⟩), asA a] w (AddAt A t g a w) := by
  have hV := hidden (valid_any A a (w.alloc (asO a)) ((hE.sub (by simp)).below (below_as w a) (Nat.le_refl _)))
  have hT1 := hidden (hT.below (below_as w a))
  have hn := hidden (asAt_new w a)
  have hlow := hidden (below_as w a)
  have hE' := hidden (fun W (h : Below w.heap.size w W) => show W.cell? ⟨1, 0, none⟩ = some (errAt (A 6)) from (hE.below h (Nat.le_refl _)) 6 (by simp))
  clear hT hE
  obtain ⟨i, s, c, m, e⟩ := a
  by_cases ho : AsOk ⟨i, s, c, m, e⟩
  · obtain ⟨hi1, hi2⟩ := ho.1.1
    simp only at hi1 hi2
    obtain ⟨k, rfl⟩ : ∃ k : Nat, i = (k : Int) := ⟨i.toNat, by omega⟩
    have hG := hidden (fun W (h : TabAt W g t) => get_any t g (k : Int) W h)
    by_cases ht : there t (k : Int)
    · obtain ⟨q1, q2, q3, q4⟩ := addC_there (t := t) ho ht
      simp only at q4
      rw [q2, errOf_fine] at hV
      unfold AddAt
      rw [q1, q3, show errOf A 107 = errAt (A 6) from rfl]
      rw [q4] at hG
      clear q1 q2 q3 q4 ho ht
      generalize gotA t (k : Int) = x at *
      go_enter Tryd.func12, Tryd.ntmps12
      go_wp2_with fail
      refine hV.out.mono ?_
      rintro r w1 ⟨rfl, hb⟩
      replace hT1 := hidden (hT1.out.below hb)
      replace hlow := hidden (hlow.out.trans (hb.mono hlow.out.size))
      replace hn := hidden (hn.out.below hb)
      clear hb hV
      have hc := hn.out.cells.1
      go_wp2_with fail
      refine (hG.out _ hT1.out).mono ?_
      rintro r w2 ⟨rfl, hb⟩
      replace hT1 := hidden ((hT1.out.below hb).below (below_as w2 x))
      replace hlow := hidden (hlow.out.trans (hb.mono hlow.out.size))
      have c6 := hE'.out _ (hlow.out.trans ((below_as w2 x).mono hlow.out.size))
      have hlow2 := hidden (hlow.out.trans ((below_as w2 x).mono hlow.out.size))
      clear hb hG hc hn hlow hE'
      go_wp2
      go_ret
      exact ⟨rfl, hT1.out, Trd.of_below hlow2.out (Nat.le_refl _)⟩
    · obtain ⟨q1, q2, q3, q4⟩ := addC_new (t := t) ho ht
      simp only at q4
      rw [q2, errOf_fine] at hV
      unfold AddAt
      rw [q1, q3, errOf_fine]
      rw [q4] at hG
      clear q1 q2 q3 q4 ho ht
      generalize gotA t (k : Int) = x at *
      go_enter Tryd.func12, Tryd.ntmps12
      go_wp2_with fail
      refine hV.out.mono ?_
      rintro r w1 ⟨rfl, hb⟩
      replace hT1 := hidden (hT1.out.below hb)
      replace hlow := hidden (hlow.out.trans (hb.mono hlow.out.size))
      replace hn := hidden (hn.out.below hb)
      clear hb hV
      have hc := hn.out.cells.1
      go_wp2_with fail
      refine (hG.out _ hT1.out).mono ?_
      rintro r w2 ⟨rfl, hb⟩
      replace hT1 := hidden ((hT1.out.below hb).below (below_as w2 x))
      replace hlow := hidden (hlow.out.trans (hb.mono hlow.out.size))
      replace hn := hidden ((hn.out.below hb).below (below_as w2 x))
      have hlow2 := hidden (hlow.out.trans ((below_as w2 x).mono hlow.out.size))
      clear hb hG hc hlow hE'
      have k33 : k < 33 := by omega
      obtain ⟨d0, d1, d2, d3, d4⟩ := hT1.out.cells k k33
      have f0 := hT1.out.frozen (k * 5)
      have f1 := hT1.out.frozen (k * 5 + 1)
      have f2 := hT1.out.frozen (k * 5 + 2)
      have f3 := hT1.out.frozen (k * 5 + 3)
      have f4 := hT1.out.frozen (k * 5 + 4)
      obtain ⟨n0, n1, n2, n3, n4⟩ := hn.out.cells
      simp only at n0 n1 n2 n3 n4
      go_wp2_with fail
      go_region
      all_goals
        go_wp2
        go_ret
        exact ⟨rfl, (hT1.out.put (a := ⟨k, s, c, m, e⟩) rfl ⟨hi1, hi2⟩).drew, ((Trd.of_below (S := (· = g)) hlow2.out (Nat.le_refl _)).trans (Trd.setCells (S := (· = g)) (b := g) rfl (asV ⟨k, s, c, m, e⟩) (k * 5) _)).trans (Trd.drew _)⟩
  · obtain ⟨q1, q2, q3⟩ := addC_no (t := t) ho
    rw [q2, show errOf A 103 = errAt (A 2) from rfl] at hV
    unfold AddAt
    rw [q1, q3]
    clear q1 q2 q3 ho
    go_enter Tryd.func12, Tryd.ntmps12
    go_wp2_with fail
    refine hV.out.mono ?_
    rintro r w1 ⟨rfl, hb⟩
    replace hT1 := hidden (hT1.out.below hb)
    replace hlow := hidden (hlow.out.trans (hb.mono hlow.out.size))
    clear hb hV
    go_wp2
    go_ret
    exact ⟨rfl, hT1.out, Trd.of_below hlow.out (Nat.le_refl _)⟩
end Go.Proofs.YtbjiiddlpfjipaaDoor
