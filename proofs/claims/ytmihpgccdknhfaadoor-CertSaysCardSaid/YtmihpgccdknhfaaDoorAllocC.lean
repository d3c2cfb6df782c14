/-
  Best, All.
  What is known of what Best finds.
  The lots in another order, and one more that is worth nothing.
-/
import Derived.Test.YtmihpgccdknhfaaDoorAllocB
import Derived.Test.YtmihpgccdknhfaaDoorLotsLaw
namespace Go.Proofs.YtmihpgccdknhfaaDoor
open Go Go.RowKit
set_option linter.unusedVariables false

abbrev reTy : TypeId := 28
abbrev reA (v : Value) (wt c : Int) (s : Bool) (k : Int) : Value := .agg #[v, .int .i64 wt, .int .i64 c, .bool s, .int .i64 k]
abbrev reO (v : Value) (wt c : Int) (s : Bool) (k : Int) : Obj := .cells #[v, .int .i64 wt, .int .i64 c, .bool s, .int .i64 k] reTy
theorem errOf_121 (A : Nat → Addr) : errOf A 121 = errAt (A 20) := rfl
/-- the error's number. -/
def beC (L : List Lt) (C : List Int) (n bud : Int) : Int := if OkP L C n then (if bud < 0 ∨ 100000 < bud then 103 else if wo L C (full L) < n then 121 else 0) else pbC L C n
/-- what is found, with nothing where there is an error. -/
def beR (L : List Lt) (C : List Int) (n bud : Int) : Se × Bool := if beC L C n bud = 0 then boR L C n (grB L C n) bud else (⟨[], [], 0, 0⟩, false)
def beW (L : List Lt) (C : List Int) (n bud : Int) : Int := if beC L C n bud = 0 then wo L C (beR L C n bud).1.best else 0
def BeAt (A : Nat → Addr) (L : List Lt) (C : List Int) (n bud : Int) (w : World) (e : Ending) (w' : World) : Prop :=
  ∃ v, e = .returned (.tuple #[reA v (beW L C n bud) (beR L C n bud).1.cost (beR L C n bud).2 (beR L C n bud).1.looked, errOf A (beC L C n bud)]) ∧ Reads .i64 w' v (beR L C n bud).1.best ∧ (∀ b, v.ownBlock = some b → w.heap.size ≤ b) ∧ Below w.heap.size w w'
theorem re_size : (Tryd.prog.info? reTy).map (·.size) = some 5 := by kernel_rfl
theorem re_end {a : Act} {w : World} {fn : Func} {R : Ending → World → Prop} {p u : Tmp} {g : Nat} {v vb : Value} {wt c k : Int} {s : Bool}
    (h : fn.results = #[.cell p reTy, .tmp u]) (hd : a.defers = []) (hp : a.tmps.getD p undef = .pointer (some ⟨g, 0, none⟩)) (hb : a.tmps.getD u undef = vb) (hg : w.heap[g]? = some (reO v wt c s k))
    (hR : R (.returned (.tuple #[reA v wt c s k, vb])) w) : bodyPost Tryd.prog fn R .ret a w := by
  subst hb
  exact bodyPost_ret (results_cell2 h _ _ _ _ _ _ _ hp hg Tryd.underlying28 rfl re_size) hd hR
theorem re_cells {w : World} {g : Nat} {v : Value} {wt c k : Int} {s : Bool} (h : w.heap[g]? = some (reO v wt c s k)) :
    (w.cell? ⟨g, 0, none⟩ = some v ∧ w.cell? ⟨g, 1, none⟩ = some (.int .i64 wt) ∧ w.cell? ⟨g, 2, none⟩ = some (.int .i64 c) ∧ w.cell? ⟨g, 3, none⟩ = some (.bool s) ∧ w.cell? ⟨g, 4, none⟩ = some (.int .i64 k)) ∧ (∀ i, w.frozen? ⟨g, i, none⟩ = false) := by
  refine ⟨⟨?_, ?_, ?_, ?_, ?_⟩, fun i => by simp [World.frozen?, h]⟩ <;> (rw [cell_of_row _ _ _ _ _ _ h]; rfl)
abbrev rePut (w : World) (g : Nat) (v : Value) (wt c : Int) (s : Bool) (k : Int) : World := ((((w.setCell ⟨g, 0, none⟩ v).setCell ⟨g, 1, none⟩ (.int .i64 wt)).setCell ⟨g, 2, none⟩ (.int .i64 c)).setCell ⟨g, 3, none⟩ (.bool s)).setCell ⟨g, 4, none⟩ (.int .i64 k)
theorem re_put {w : World} {g : Nat} {v : Value} {wt c k : Int} {s : Bool} (h : w.heap[g]? = some (reO v wt c s k)) (v' : Value) (wt' c' : Int) (s' : Bool) (k' : Int) : (rePut w g v' wt' c' s' k').heap[g]? = some (reO v' wt' c' s' k') := by
  show (((((w.setCell ⟨g, 0, none⟩ v').setCell ⟨g, 1, none⟩ (.int .i64 wt')).setCell ⟨g, 2, none⟩ (.int .i64 c')).setCell ⟨g, 3, none⟩ (.bool s')).setCell ⟨g, 4, none⟩ (.int .i64 k')).heap[g]? = _
  rw [heap_setCell_row (heap_setCell_row (heap_setCell_row (heap_setCell_row (heap_setCell_row h _) _) _) _) _]
  rfl
theorem re_put_trd (w : World) (g : Nat) (v' : Value) (wt' c' : Int) (s' : Bool) (k' : Int) : Trd (· = g) w (rePut w g v' wt' c' s' k') :=
  ((((Trd.setCell (S := (· = g)) w ⟨g, 0, none⟩ _ rfl).trans (Trd.setCell _ ⟨g, 1, none⟩ _ rfl)).trans (Trd.setCell _ ⟨g, 2, none⟩ _ rfl)).trans (Trd.setCell _ ⟨g, 3, none⟩ _ rfl)).trans (Trd.setCell _ ⟨g, 4, none⟩ _ rfl)
theorem re_put_below {w W : World} {B g : Nat} (h : Below B w W) (hg : B ≤ g) (v' : Value) (wt' c' : Int) (s' : Bool) (k' : Int) : Below B w (rePut W g v' wt' c' s' k') := ((((h.setCell hg _).setCell hg _).setCell hg _).setCell hg _).setCell hg _
theorem below_re (w : World) (v : Value) (wt c : Int) (s : Bool) (k : Int) : Below w.heap.size w (w.alloc (reO v wt c s k)) := (Below.refl _ w).alloc (Nat.le_refl _) _
theorem Trd.low {w w0 W : World} {sg bg B : Nat} (h : Below B w w0) (ht : Trd (TwoB sg bg) w0 W) (h1 : B ≤ sg) (h2 : B ≤ bg) (hB : B ≤ w0.heap.size) : Below B w W :=
  h.trans ⟨ht.os, ht.tape, ht.output, ht.size, fun i hi => ht.block i (by omega) (fun q => by rcases q with q | q <;> omega)⟩
set_option maxRecDepth 100000 in
set_option maxHeartbeats 12800000 in
theorem best_bad (A : Nat → Addr) (lv cv : Value) (L : List Lt) (C : List Int) (n bud : Int) (w : World) (h : PbR w lv cv L C) (hE : ErrsOn [2, 4, 20] w A) (hbad : beC L C n bud ≠ 0) (hb0 : In64 bud) :
    Calls Tryd.prog 18 #[pbA lv cv n, .int .i64 bud] w (BeAt A L C n bud w) := by
  have hR0 : beR L C n bud = (⟨[], [], 0, 0⟩, false) := if_neg hbad
  have hW0 : beW L C n bud = 0 := if_neg hbad
  unfold BeAt
  rw [hR0, hW0]
  have hb1 := below_pb w pbTy lv cv n
  have hb2 := hb1.trans ((below_re (w.alloc (pbO pbTy lv cv n)) (.slice none 0 0) 0 0 false 0).mono hb1.size)
  have hbW := hidden (fun W (hW : Below ((w.alloc (pbO pbTy lv cv n)).alloc (reO (.slice none 0 0) 0 0 false 0)).heap.size ((w.alloc (pbO pbTy lv cv n)).alloc (reO (.slice none 0 0) 0 0 false 0)) W) => hb2.trans (hW.mono hb2.size))
  have hcW := hidden (fun W (hW : Below ((w.alloc (pbO pbTy lv cv n)).alloc (reO (.slice none 0 0) 0 0 false 0)).heap.size ((w.alloc (pbO pbTy lv cv n)).alloc (reO (.slice none 0 0) 0 0 false 0)) W) => ((((pbAt_new w pbTy lv cv n).below (below_re _ (.slice none 0 0) 0 0 false 0) (Nat.le_refl _)).below hW (Nat.le_refl _)).cells))
  have hz : ((w.alloc (pbO pbTy lv cv n)).alloc (reO (.slice none 0 0) 0 0 false 0)).heap[w.heap.size + 1]? = some (reO (.slice none 0 0) 0 0 false 0) := by
    have := heap_alloc_new (w.alloc (pbO pbTy lv cv n)) (reO (.slice none 0 0) 0 0 false 0)
    simpa using this
  have hzW := hidden (fun W (hW : Below ((w.alloc (pbO pbTy lv cv n)).alloc (reO (.slice none 0 0) 0 0 false 0)).heap.size ((w.alloc (pbO pbTy lv cv n)).alloc (reO (.slice none 0 0) 0 0 false 0)) W) => (hW.block _ (Array.getElem?_eq_some_iff.1 hz).1).trans hz)
  have hV := hidden (ltValid_any A lv cv L C n _ (h.below hb2 (Nat.le_refl _)) ((hE.sub (by simp)).below hb2 (Nat.le_refl _)))
  have hMo := hidden (fun W hl hW => ltMost_any A lv cv L C n W (h.below (hbW.out W hW) (Nat.le_refl _)) hl ((hE.sub (by simp)).below (hbW.out W hW) (Nat.le_refl _)))
  have hEW := hidden (fun W hW => hE.below (hbW.out W hW) (Nat.le_refl _))
  obtain ⟨la, lc, rfl⟩ := row_slice h.lots
  obtain ⟨ca, cc, rfl⟩ := reads_slice h.caps
  obtain ⟨p0, p1, p2⟩ := hcW.out _ (Below.refl _ _)
  have hgN : 4 < w.heap.size := World.block_lt_of_cell? w _ (show w.cell? ⟨4, 0, none⟩ = some (errAt (A 20)) from hE 20 (by simp))
  have hgN1 : ¬ 4 = w.heap.size + 1 := by omega
  have hgN2 : ¬ w.heap.size + 1 = 4 := by omega
  have hgN3 : ¬ w.heap.size = 0 := by omega
  clear h hE hb1 hb2 hz hR0 hW0
  by_cases hok : OkP L C n
  · rw [pbC_ok hok, errOf_fine] at hV
    have hL8 := hok.1.1.2
    have hc : beC L C n bud = if bud < 0 ∨ 100000 < bud then 103 else if wo L C (full L) < n then 121 else 0 := if_pos hok
    by_cases hbr : bud < 0 ∨ 100000 < bud
    · rw [if_pos hbr] at hc
      rw [hc, errOf_103]
      clear hMo hc hbad
      by_cases hbn : bud < 0
      · have hd0 : decide (bud < 0) = true := decide_eq_true hbn
        clear hbr
        go_enter Tryd.func18, Tryd.ntmps18
        go_wp2_with fail
        (with_reducible refine hV.out.mono ?_)
        rintro e w5 ⟨rfl, hb5⟩
        have hz5 := hzW.out _ hb5
        obtain ⟨⟨z0, z1, z2, z3, z4⟩, hf⟩ := re_cells hz5
        have eR : w5.cell? ⟨3, 0, none⟩ = some (errAt (A 2)) := hEW.out _ hb5 2 (by simp)
        have hend := hidden (re_put hz5 (.slice none 0 0) 0 0 false 0)
        have hbe := hidden (re_put_below (hbW.out _ hb5) (show w.heap.size ≤ w.heap.size + 1 from Nat.le_succ _) (.slice none 0 0) 0 0 false 0).drew
        clear hV hzW hEW hcW hbW hb5 hz5
        have g0 := hf 0
        have g1 := hf 1
        have g2 := hf 2
        have g3 := hf 3
        have g4 := hf 4
        clear hf
        go_wp2_with fail
        go_region
        all_goals
          go_wp2_with fail
          exact re_end (g := w.heap.size + 1) rfl rfl rfl rfl hend.out ⟨_, rfl, Reads.nil _ _, (fun b hb => by simp [Value.ownBlock] at hb), hbe.out⟩
      · have hd0 : decide (bud < 0) = false := decide_eq_false hbn
        have hd1 : decide (100000 < bud) = true := decide_eq_true (by omega)
        clear hbr
        go_enter Tryd.func18, Tryd.ntmps18
        go_wp2_with fail
        (with_reducible refine hV.out.mono ?_)
        rintro e w5 ⟨rfl, hb5⟩
        have hz5 := hzW.out _ hb5
        obtain ⟨⟨z0, z1, z2, z3, z4⟩, hf⟩ := re_cells hz5
        have eR : w5.cell? ⟨3, 0, none⟩ = some (errAt (A 2)) := hEW.out _ hb5 2 (by simp)
        have hend := hidden (re_put hz5 (.slice none 0 0) 0 0 false 0)
        have hbe := hidden (re_put_below (hbW.out _ hb5) (show w.heap.size ≤ w.heap.size + 1 from Nat.le_succ _) (.slice none 0 0) 0 0 false 0).drew
        clear hV hzW hEW hcW hbW hb5 hz5
        have g0 := hf 0
        have g1 := hf 1
        have g2 := hf 2
        have g3 := hf 3
        have g4 := hf 4
        clear hf
        go_wp2_with fail
        go_region
        all_goals
          go_wp2_with fail
          exact re_end (g := w.heap.size + 1) rfl rfl rfl rfl hend.out ⟨_, rfl, Reads.nil _ _, (fun b hb => by simp [Value.ownBlock] at hb), hbe.out⟩
    · rw [if_neg hbr] at hc
      have hmn : wo L C (full L) < n := by
        apply Decidable.byContradiction
        intro hh
        rw [if_neg hh] at hc
        exact hbad hc
      rw [if_pos hmn] at hc
      rw [hc, errOf_121]
      have hmo : moV L C n = wo L C (full L) := by unfold moV woV; rw [goodB_yes hok (tk_full hok), if_pos rfl]
      rw [hmo] at hMo
      have hMo2 := hidden (fun W hW => hMo.out W (by omega) hW)
      have hd0 : decide (bud < 0) = false := decide_eq_false (by omega)
      have hd1 : decide (100000 < bud) = false := decide_eq_false (by omega)
      have hdm : decide (wo L C (full L) < n) = true := decide_eq_true hmn
      clear hMo hmo hc hbad hbr
      generalize wo L C (full L) = mo at *
      go_enter Tryd.func18, Tryd.ntmps18
      go_wp2_with fail
      (with_reducible refine hV.out.mono ?_)
      rintro e w5 ⟨rfl, hb5⟩
      have hS := hidden (fun W (hW : Below w5.heap.size w5 W) => show W.cell? ⟨w.heap.size, 0, none⟩ = some (.slice la L.length lc) ∧ W.cell? ⟨w.heap.size, 1, none⟩ = some (.slice ca C.length cc) ∧ W.cell? ⟨w.heap.size, 2, none⟩ = some (.int .i64 n) from hcW.out W (hb5.trans (hW.mono hb5.size)))
      have hMo3 := hidden (hMo2.out w5.drew hb5.drew)
      have hz5 := hidden (fun W (hW : Below w5.heap.size w5 W) => hzW.out W (hb5.trans (hW.mono hb5.size)))
      have hE5 := hidden (fun W (hW : Below w5.heap.size w5 W) => hEW.out W (hb5.trans (hW.mono hb5.size)))
      have hb5W := hidden (fun W (hW : Below w5.heap.size w5 W) => hbW.out W (hb5.trans (hW.mono hb5.size)))
      clear hV hzW hEW hcW hbW hb5 hMo2
      go_wp2_with fail
      go_region_held3 (fun W => W.cell? ⟨w.heap.size, 0, none⟩ = some (.slice la L.length lc) ∧ W.cell? ⟨w.heap.size, 1, none⟩ = some (.slice ca C.length cc) ∧ W.cell? ⟨w.heap.size, 2, none⟩ = some (.int .i64 n))
        ((first | with_reducible exact hS.out _ (Below.refl _ _).drew | with_reducible assumption | with_reducible exact hS.out _ hz6.out))
        ((go_at_call 36; (with_reducible refine hMo3.out.mono ?_); rintro r w6 ⟨rfl, hb6⟩; have hz6 := hidden (show Below w5.heap.size w5 w6 from (Below.refl _ w5).drew.trans hb6)))
      all_goals
        rename_i hh
        clear hh hb6 hMo3
        have hzz := hz5.out _ hz6.out
        obtain ⟨⟨z0, z1, z2, z3, z4⟩, hf⟩ := re_cells hzz
        have eN : w6.cell? ⟨4, 0, none⟩ = some (errAt (A 20)) := hE5.out _ hz6.out 20 (by simp)
        have hend := hidden (re_put hzz (.slice none 0 0) 0 0 false 0)
        have hbe := hidden (re_put_below (hb5W.out _ hz6.out) (show w.heap.size ≤ w.heap.size + 1 from Nat.le_succ _) (.slice none 0 0) 0 0 false 0).drew
        clear hz5 hE5 hb5W hz6 hS hzz
        have g0 := hf 0
        have g1 := hf 1
        have g2 := hf 2
        have g3 := hf 3
        have g4 := hf 4
        clear hf
        go_wp2_with fail
        go_region
        all_goals
          go_wp2_with fail
          exact re_end (g := w.heap.size + 1) rfl rfl rfl rfl hend.out ⟨_, rfl, Reads.nil _ _, (fun b hb => by simp [Value.ownBlock] at hb), hbe.out⟩
  · have hc : beC L C n bud = pbC L C n := if_neg hok
    rw [hc]
    have hne := errOf_pb A hok
    clear hc hbad hMo hEW hok
    generalize errOf A (pbC L C n) = ev at *
    rcases hne with rfl | rfl
    all_goals
      go_enter Tryd.func18, Tryd.ntmps18
      go_wp2_with fail
      (with_reducible refine hV.out.mono ?_)
      rintro e w5 ⟨rfl, hb5⟩
      have hz5 := hzW.out _ hb5
      obtain ⟨⟨z0, z1, z2, z3, z4⟩, hf⟩ := re_cells hz5
      have hend := hidden (re_put hz5 (.slice none 0 0) 0 0 false 0)
      have hbe := hidden (re_put_below (hbW.out _ hb5) (show w.heap.size ≤ w.heap.size + 1 from Nat.le_succ _) (.slice none 0 0) 0 0 false 0)
      clear hV hzW hcW hbW hb5 hz5
      have g0 := hf 0
      have g1 := hf 1
      have g2 := hf 2
      have g3 := hf 3
      have g4 := hf 4
      clear hf
      go_wp2_with fail
      exact re_end (g := w.heap.size + 1) rfl rfl rfl rfl hend.out ⟨_, rfl, Reads.nil _ _, (fun b hb => by simp [Value.ownBlock] at hb), hbe.out⟩
end Go.Proofs.YtmihpgccdknhfaaDoor

/-
  Best where something can be done.
-/
namespace Go.Proofs.YtmihpgccdknhfaaDoor
open Go Go.RowKit
set_option linter.unusedVariables false

section
variable {L : List Lt} {C : List Int} {n : Int}
theorem mb_start (h : OkP L C n) (b : Bool) (hb : b = !decide ((gR L C n).2 < n)) (hc : mbC (noS C n) (moM L (plL L)) (co L (fcL L C n b)) = true) : 0 < (noS C n).l ∧ 0 < (moM L (plL L)).length := by
  have hl : 0 < (noS C n).l := by
    apply Decidable.byContradiction
    intro hh
    have hn0 : n ≤ 0 := by show n ≤ 0; have : (noS C n).l = n := rfl; omega
    have e1 : gR L C n = gSt L := gAll_done (by show ¬ (0 : Int) < n; omega)
    have e2 : fcL L C n b = List.replicate L.length 0 := by
      unfold fcL
      rw [hb, e1, if_pos (by show (!decide ((0 : Int) < n)) = true; simp; omega)]
      rfl
    have e3 : co L (List.replicate L.length 0) = 0 := sumF_zero fun i _ => by unfold coF; rw [zeros_at, Int.zero_mul]
    unfold mbC at hc
    rw [e2, e3, le_done _ (by show (noS C n).l ≤ 0; omega)] at hc
    simp [noS] at hc
  refine ⟨hl, ?_⟩
  apply Decidable.byContradiction
  intro hh
  have : moM L (plL L) = [] := List.eq_nil_of_length_eq_zero (by omega)
  rw [this] at hc
  unfold mbC leS at hc
  rw [decide_eq_false (by omega)] at hc
  simp at hc
theorem bg_pl (h : OkP L C n) : ∀ y ∈ moM L (plL L), bgL y := fun y hy => by
  obtain ⟨i, hi, rfl⟩ := List.mem_map.1 hy
  obtain ⟨h1, h2⟩ := mem_plL.1 hi
  have h3 := ratedB_iff.1 h2
  have h4 := h.lot h1
  have := h.1.2.2
  unfold ltOk at h4
  unfold bgL
  omega
theorem bd_no (h : OkP L C n) : BdS 0 (noS C n) := by
  have hn := h.2.2.2
  refine ⟨no_ok h, Int.le_refl _, by simp [noS], by simp [noS]; exact hn.1, hn.2, fun g hg => ?_⟩
  show (rmTo C n C.length).getD g 0 ≤ _
  rw [rmTo_at C n _ hg]
  split
  · rename_i q
    have := (h.cap q).2
    have := hn.2
    split <;> omega
  · omega
theorem gr_is (h : OkP L C n) : grB L C n = !decide ((gR L C n).2 < n) := by unfold grB; rw [decide_eq_true h]; rfl
theorem beC_ok {bud : Int} (h : beC L C n bud = 0) : OkP L C n ∧ 0 ≤ bud ∧ bud ≤ 100000 ∧ n ≤ wo L C (full L) := by
  unfold beC at h
  by_cases hok : OkP L C n
  · rw [if_pos hok] at h
    by_cases hb : bud < 0 ∨ 100000 < bud
    · rw [if_pos hb] at h; omega
    · rw [if_neg hb] at h
      by_cases hm : wo L C (full L) < n
      · rw [if_pos hm] at h; omega
      · exact ⟨hok, by omega, by omega, by omega⟩
  · rw [if_neg hok] at h
    exact absurd (pbC_iff.1 h) hok
end
set_option maxRecDepth 100000 in
set_option maxHeartbeats 12800000 in
theorem best_good (A : Nat → Addr) (lv cv : Value) (L : List Lt) (C : List Int) (n bud : Int) (w : World) (h : PbR w lv cv L C) (hE : ErrsOn [2, 4, 20] w A) (hbe : beC L C n bud = 0) :
    Calls Tryd.prog 18 #[pbA lv cv n, .int .i64 bud] w (BeAt A L C n bud w) := by
  obtain ⟨hok, hbu0, hbu1, hmn⟩ := beC_ok hbe
  have hR0 : beR L C n bud = boR L C n (grB L C n) bud := if_pos hbe
  have hW0 : beW L C n bud = wo L C (beR L C n bud).1.best := if_pos hbe
  have hfo := bo_found hok hmn (grB L C n) (gr_is hok) hbu0
  unfold BeAt
  rw [hbe, errOf_fine, hW0, hR0]
  have hL8 := hok.1.1.2
  have hL1 := hok.1.1.1
  have hb1 := below_pb w pbTy lv cv n
  have hb2 := hb1.trans ((below_re (w.alloc (pbO pbTy lv cv n)) (.slice none 0 0) 0 0 false 0).mono hb1.size)
  have hbW := hidden (fun W (hW : Below ((w.alloc (pbO pbTy lv cv n)).alloc (reO (.slice none 0 0) 0 0 false 0)).heap.size ((w.alloc (pbO pbTy lv cv n)).alloc (reO (.slice none 0 0) 0 0 false 0)) W) => hb2.trans (hW.mono hb2.size))
  have hcW := hidden (fun W (hW : Below ((w.alloc (pbO pbTy lv cv n)).alloc (reO (.slice none 0 0) 0 0 false 0)).heap.size ((w.alloc (pbO pbTy lv cv n)).alloc (reO (.slice none 0 0) 0 0 false 0)) W) => ((((pbAt_new w pbTy lv cv n).below (below_re _ (.slice none 0 0) 0 0 false 0) (Nat.le_refl _)).below hW (Nat.le_refl _)).cells))
  have hz : ((w.alloc (pbO pbTy lv cv n)).alloc (reO (.slice none 0 0) 0 0 false 0)).heap[w.heap.size + 1]? = some (reO (.slice none 0 0) 0 0 false 0) := by
    have := heap_alloc_new (w.alloc (pbO pbTy lv cv n)) (reO (.slice none 0 0) 0 0 false 0)
    simpa using this
  have hsz2 : ((w.alloc (pbO pbTy lv cv n)).alloc (reO (.slice none 0 0) 0 0 false 0)).heap.size = w.heap.size + 2 := by simp
  have hzW := hidden (fun W (hW : Below ((w.alloc (pbO pbTy lv cv n)).alloc (reO (.slice none 0 0) 0 0 false 0)).heap.size ((w.alloc (pbO pbTy lv cv n)).alloc (reO (.slice none 0 0) 0 0 false 0)) W) => (hW.block _ (Array.getElem?_eq_some_iff.1 hz).1).trans hz)
  have hV := hidden (ltValid_any A lv cv L C n _ (h.below hb2 (Nat.le_refl _)) ((hE.sub (by simp)).below hb2 (Nat.le_refl _)))
  rw [pbC_ok hok, errOf_fine] at hV
  have hmo : moV L C n = wo L C (full L) := by unfold moV woV; rw [goodB_yes hok (tk_full hok), if_pos rfl]
  have hMo := hidden (fun W hW => ltMost_any A lv cv L C n W (h.below (hbW.out W hW) (Nat.le_refl _)) (by omega) ((hE.sub (by simp)).below (hbW.out W hW) (Nat.le_refl _)))
  rw [hmo] at hMo
  have hNs := hidden (fun W hW => new20_any A lv cv L C n bud W (h.below (hbW.out W hW) (Nat.le_refl _)) ((hE.sub (by simp)).below (hbW.out W hW) (Nat.le_refl _)) hok hmn)
  unfold NsAt at hNs
  have hNo := hidden (fun W hW => nothing20_any lv cv L C n W (h.below (hbW.out W hW) (Nat.le_refl _)) hok.1.2.2)
  have hWo := hidden (fun W hW tv hr => ltWorth2_any A lv cv L C n tv (boR L C n (grB L C n) bud).1.best W (h.below (hbW.out W hW) (Nat.le_refl _)) hr ((hE.sub (by simp)).below (hbW.out W hW) (Nat.le_refl _)))
  have hwv : woV L C n (boR L C n (grB L C n) bud).1.best = wo L C (boR L C n (grB L C n) bud).1.best := by unfold woV; rw [goodB_yes hok hfo.tk, if_pos rfl]
  rw [hwv, goodB_yes hok hfo.tk] at hWo
  have hRl := hidden hfo.tk.1
  have hgood := fc_good hok hmn (grB L C n) (gr_is hok)
  have hTl : (fcL L C n (grB L C n)).length = L.length := hgood.1.1
  have hRun := hidden (fun (W0 W : World) (sg bg : Nat) (lv' pv' : Value) (hO : SeOf W0 sg bg lv' pv' (moM L (plL L)) (plL L)) (hx : SeAt W0 sg bg lv' pv' bud ⟨[], fcL L C n (grB L C n), co L (fcL L C n (grB L C n)), 0⟩ W) =>
    run_any (fcL L C n (grB L C n)) (co L (fcL L C n (grB L C n))) hO hx (bg_pl hok) (so_pl hok) (by rw [mo_len]; have := plL_len L; have := plF_len L L.length; omega) (bd_no hok) hbu0 (by omega) (mo_len _).symm (fun j hj => by rw [hTl]; exact pl_lt hj) (by omega) (by omega) (mb_start hok (grB L C n) (gr_is hok)) (boR L C n (grB L C n) bud) rfl)
  obtain ⟨r0, r1, r2, r3, r4, r5, r6, r7, hr8⟩ := eight (rmTo C n C.length) (rmTo_len C n _)
  have hd0 : decide (bud < 0) = false := decide_eq_false (by omega)
  have hd1 : decide (100000 < bud) = false := decide_eq_false (by omega)
  have hdm : decide (wo L C (full L) < n) = false := decide_eq_false (by omega)
  clear hfo hmo hwv hgood hTl hR0 hW0 hbe hmn
  generalize boR L C n (grB L C n) bud = R at *
  generalize fcL L C n (grB L C n) = T at *
  generalize co L T = K at *
  generalize wo L C (full L) = mo at *
  generalize wo L C R.1.best = wR at *
  simp only [noS, sgA, hr8, List.getD_cons_zero, List.getD_cons_succ] at hNo hRun
  obtain ⟨⟨Rst, Rb, Rk, Rl⟩, Rs⟩ := R
  simp only at hWo hRl hRun ⊢
  obtain ⟨la, lc, rfl⟩ := row_slice h.lots
  obtain ⟨ca, cc, rfl⟩ := reads_slice h.caps
  obtain ⟨p0, p1, p2⟩ := hcW.out _ (Below.refl _ _)
  clear h hE hb1 hb2 hz hr8
  go_enter Tryd.func18, Tryd.ntmps18
  go_wp2_with fail
  (with_reducible refine hV.out.mono ?_)
  rintro e w5 ⟨rfl, hb5⟩
  have hS := hidden (fun W (hW : Below w5.heap.size w5 W) => show W.cell? ⟨w.heap.size, 0, none⟩ = some (.slice la L.length lc) ∧ W.cell? ⟨w.heap.size, 1, none⟩ = some (.slice ca C.length cc) ∧ W.cell? ⟨w.heap.size, 2, none⟩ = some (.int .i64 n) from hcW.out W (hb5.trans (hW.mono hb5.size)))
  have hMo3 := hidden (hMo.out w5.drew hb5.drew)
  have h2W := hidden (fun W (hW : Below w5.heap.size w5 W) => hb5.trans (hW.mono hb5.size))
  clear hV hMo hb5
  go_wp2_with fail
  go_region_held3 (fun W => W.cell? ⟨w.heap.size, 0, none⟩ = some (.slice la L.length lc) ∧ W.cell? ⟨w.heap.size, 1, none⟩ = some (.slice ca C.length cc) ∧ W.cell? ⟨w.heap.size, 2, none⟩ = some (.int .i64 n))
    ((first | with_reducible exact hS.out _ (Below.refl _ _).drew | with_reducible assumption | with_reducible exact hS.out _ hz6.out))
    ((go_at_call 36; (with_reducible refine hMo3.out.mono ?_); rintro r w6 ⟨rfl, hb6⟩; have hz6 := hidden (show Below w5.heap.size w5 w6 from (Below.refl _ w5).drew.trans hb6)))
  all_goals
    rename_i hh
    clear hh hb6 hMo3 p0 p1 p2
    have hb7 := hidden (h2W.out _ hz6.out)
    obtain ⟨p0, p1, p2⟩ := hcW.out _ hb7.out
    clear hS h2W hz6
    go_wp2_with fail
    (with_reducible refine (hNs.out _ hb7.out).mono ?_)
    rintro e w7 ⟨sg, bg, lv', pv', rfl, hO, hx, hsg, hbg, hb8⟩
    have hlo := hidden (show w.heap.size + 2 ≤ sg ∧ w.heap.size + 2 ≤ bg from by have := hb7.out.size; omega)
    replace hb8 := hidden (hb7.out.trans (hb8.mono hb7.out.size))
    replace hO := hidden hO
    replace hx := hidden hx
    clear hsg hbg hb7 hNs p0 p1 p2
    obtain ⟨p0, p1, p2⟩ := hcW.out _ hb8.out
    go_wp2_with fail
    (with_reducible refine (hNo.out _ hb8.out).mono ?_)
    rintro e w8 ⟨rfl, hb9⟩
    have hR8 := hidden (hRun.out w7 w8 sg bg lv' pv' hO.out (hx.out.below hb9))
    clear hNo hRun hx hb9 p0 p1 p2
    go_wp2_with fail
    (with_reducible refine hR8.out.mono ?_)
    rintro e w9 ⟨rfl, hx9⟩
    have hb10 := hidden (hx9.keep.low hb8.out (by rw [hsz2]; exact hlo.out.1) (by rw [hsz2]; exact hlo.out.2) hb8.out.size)
    clear hR8
    obtain ⟨⟨sv, hrow, _⟩, hbest, _⟩ := hx9
    simp only at hrow hbest
    rw [hRl.out] at hrow
    have hTr := hbest.reads hRl.out (by omega)
    have hWo3 := hidden (hWo.out w9.drew hb10.out.drew _ (hTr.same fun _ _ => rfl))
    have hS := hidden (fun W (hW : Below w9.heap.size w9 W) => show W.cell? ⟨w.heap.size, 0, none⟩ = some (.slice la L.length lc) ∧ W.cell? ⟨w.heap.size, 1, none⟩ = some (.slice ca C.length cc) ∧ W.cell? ⟨w.heap.size, 2, none⟩ = some (.int .i64 n) ∧ W.cell? ⟨sg, 3, none⟩ = some (.slice (some ⟨bg, 0, none⟩) L.length L.length) from by
      obtain ⟨e0, e1, e2⟩ := hcW.out W (hb10.out.trans (hW.mono hb10.out.size))
      obtain ⟨⟨_, _, _, e3⟩, _⟩ := se_cells ((hW.block _ (Array.getElem?_eq_some_iff.1 hrow).1).trans hrow)
      exact ⟨e0, e1, e2, e3⟩)
    have hrW := hidden (fun W (hW : Below w9.heap.size w9 W) => (hW.block _ (Array.getElem?_eq_some_iff.1 hrow).1).trans hrow)
    have hnW := hidden (fun W (hW : Below w9.heap.size w9 W) => hbest.below hW (Nat.le_refl _))
    have h2W := hidden (fun W (hW : Below w9.heap.size w9 W) => hb10.out.trans (hW.mono hb10.out.size))
    clear hrow hbest hTr hb10 hWo hb8 hO
    go_wp2_with fail
    go_region_held3 (fun W => W.cell? ⟨w.heap.size, 0, none⟩ = some (.slice la L.length lc) ∧ W.cell? ⟨w.heap.size, 1, none⟩ = some (.slice ca C.length cc) ∧ W.cell? ⟨w.heap.size, 2, none⟩ = some (.int .i64 n) ∧ W.cell? ⟨sg, 3, none⟩ = some (.slice (some ⟨bg, 0, none⟩) L.length L.length))
      ((first | with_reducible exact hS.out _ (Below.refl _ _).drew | with_reducible assumption | with_reducible exact hS.out _ hz6.out))
      ((go_at_call 26; (with_reducible refine hWo3.out.mono ?_); rintro r w10 ⟨rfl, hb11⟩; have hz6 := hidden (show Below w9.heap.size w9 w10 from (Below.refl _ w9).drew.trans hb11)))
    all_goals
      rename_i hh
      clear hh hb11 hWo3
      have hrr := hrW.out _ hz6.out
      obtain ⟨⟨_, _, _, s3⟩, s4, s5, _⟩ := se_cells hrr
      have hb12 := h2W.out _ hz6.out
      have hzz := hzW.out _ hb12
      obtain ⟨⟨z0, z1, z2, z3, z4⟩, hf⟩ := re_cells hzz
      have hend := hidden (re_put hzz (.slice (some ⟨bg, 0, none⟩) L.length L.length) wR Rk Rs Rl)
      have hbe := hidden (re_put_below (hbW.out _ hb12) (show w.heap.size ≤ w.heap.size + 1 from Nat.le_succ _) (.slice (some ⟨bg, 0, none⟩) L.length L.length) wR Rk Rs Rl).drew
      have hre := hidden (show Reads .i64 (rePut w10 (w.heap.size + 1) (.slice (some ⟨bg, 0, none⟩) L.length L.length) wR Rk Rs Rl) (.slice (some ⟨bg, 0, none⟩) L.length L.length) Rb from
        ((hnW.out _ hz6.out).reads hRl.out (by omega)).trd (re_put_trd w10 (w.heap.size + 1) (.slice (some ⟨bg, 0, none⟩) L.length L.length) wR Rk Rs Rl) (fun b hb => by
          have e : bg = b := by simpa [Value.ownBlock] using hb
          have := hlo.out.2
          omega))
      have hob := hidden (show ∀ b, (Value.slice (some ⟨bg, 0, none⟩) L.length L.length).ownBlock = some b → w.heap.size ≤ b from fun b hb => by
        have e : bg = b := by simpa [Value.ownBlock] using hb
        have := hlo.out.2
        omega)
      have g0 := hf 0
      have g1 := hf 1
      have g2 := hf 2
      have g3 := hf 3
      have g4 := hf 4
      clear hf hzz hrr hb12 hrW hnW h2W hS hz6 hcW hbW hzW
      go_wp2_with fail
      go_region
      all_goals
        go_wp2_with fail
        exact re_end (g := w.heap.size + 1) rfl rfl rfl rfl hend.out ⟨_, rfl, hre.out.same fun _ _ => rfl, hob.out, hbe.out⟩
end Go.Proofs.YtmihpgccdknhfaaDoor

/-
  Best whatever is asked; All; first.
-/
namespace Go.Proofs.YtmihpgccdknhfaaDoor
open Go Go.RowKit
set_option linter.unusedVariables false

theorem best_any (A : Nat → Addr) (lv cv : Value) (L : List Lt) (C : List Int) (n bud : Int) (w : World) (h : PbR w lv cv L C) (hE : ErrsOn [2, 4, 20] w A) (hb0 : In64 bud) :
    Calls Tryd.prog 18 #[pbA lv cv n, .int .i64 bud] w (BeAt A L C n bud w) := by
  by_cases hc : beC L C n bud = 0
  · exact best_good A lv cv L C n bud w h hE hc
  · exact best_bad A lv cv L C n bud w h hE hc hb0
theorem beC_ways (L : List Lt) (C : List Int) (n bud : Int) (A : Nat → Addr) : beC L C n bud = 0 ∨ (errOf A (beC L C n bud) = errAt (A 2) ∨ errOf A (beC L C n bud) = errAt (A 4) ∨ errOf A (beC L C n bud) = errAt (A 20)) := by
  unfold beC
  by_cases hok : OkP L C n
  · rw [if_pos hok]
    split
    · exact .inr (.inl (errOf_103 A))
    · split
      · exact .inr (.inr (.inr (errOf_121 A)))
      · exact .inl rfl
  · rw [if_neg hok]
    rcases errOf_pb A hok with e | e
    · first | exact .inr (.inl e) | exact .inr (.inr (.inl e))
    · first | exact .inr (.inr (.inl e)) | exact .inr (.inl e)
def oneL20 : List Lt := [⟨3, 5, 1, 0⟩]
theorem one_be : beC oneL [0] 0 100000 = 0 := by
  unfold beC
  rw [if_pos oneL_ok]
  decide
theorem one_fc (b : Bool) (hb : b = grB oneL [0] 0) : fcL oneL [0] 0 b = [0] := by subst hb; rw [oneL_gr.1]; decide
theorem one_mb : mbC (noS [0] 0) (moM oneL (plL oneL)) 0 = false := by
  unfold mbC
  rw [le_done _ (by decide)]
  simp [noS]
theorem one_re : beR oneL [0] 0 100000 = (⟨[], [0], 0, 0⟩, true) := by
  unfold beR
  rw [if_pos one_be]
  unfold boR
  rw [one_fc _ rfl]
  have : co oneL [0] = 0 := by decide
  rw [this]
  unfold ruS
  simp [one_mb]
end Go.Proofs.YtmihpgccdknhfaaDoor

/-
  first; the document's problem.
-/
namespace Go.Proofs.YtmihpgccdknhfaaDoor
open Go Go.RowKit
set_option linter.unusedVariables false

theorem one_bw : beW oneL [0] 0 100000 = 0 := by
  unfold beW
  rw [one_re]
  split
  · decide
  · rfl
theorem be_found {L : List Lt} {C : List Int} {n bud : Int} (h : beC L C n bud = 0) : Found20 L C n bud (beR L C n bud) (co L (fcL L C n (grB L C n))) ∧ beW L C n bud = wo L C (beR L C n bud).1.best := by
  obtain ⟨hok, hb0, hb1, hm⟩ := beC_ok h
  refine ⟨?_, if_pos h⟩
  rw [show beR L C n bud = boR L C n (grB L C n) bud from if_pos h]
  exact bo_found hok hm (grB L C n) (gr_is hok) hb0
theorem below_alloc20 {w W : World} (h : Below w.heap.size w W) (o : Obj) : Below w.heap.size w (W.alloc o) := h.alloc h.size o
end Go.Proofs.YtmihpgccdknhfaaDoor
namespace Go.Proofs.YtmihpgccdknhfaaDoor
open Go Go.RowKit
set_option linter.unusedVariables false

theorem be_code {L : List Lt} {C : List Int} {n bud : Int} (h : OkP L C n) (h0 : 0 ≤ bud) (h1 : bud ≤ 100000) : beC L C n bud = if wo L C (full L) < n then 121 else 0 := by
  unfold beC
  rw [if_pos h, if_neg (by omega)]
theorem be_same {L : List Lt} {C : List Int} {n x y : Int} (h : OkP L C n) (hx : 0 ≤ x ∧ x ≤ 100000) (hy : 0 ≤ y ∧ y ≤ 100000) (hm : ¬ wo L C (full L) < n) : (beR L C n x).2 = true → (beR L C n y).2 = true → (beR L C n x).1.cost = (beR L C n y).1.cost := by
  have e1 := (be_found (show beC L C n x = 0 by rw [be_code h hx.1 hx.2, if_neg hm])).1
  have e2 := (be_found (show beC L C n y = 0 by rw [be_code h hy.1 hy.2, if_neg hm])).1
  intro s1 s2
  apply Int.le_antisymm
  · rw [e2.cost]; exact e1.sure s1 _ e2.tk e2.fits
  · rw [e1.cost]; exact e2.sure s2 _ e1.tk e1.fits
/-- more is needed: it costs no less. -/
theorem be_grows {L : List Lt} {C : List Int} {n m bud : Int} (h0 : beC L C n bud = 0) (h1 : beC L C m bud = 0) (hnm : n ≤ m) : (beR L C n bud).2 = true → (beR L C n bud).1.cost ≤ (beR L C m bud).1.cost := by
  have e1 := (be_found h0).1
  have e2 := (be_found h1).1
  intro s
  rw [e2.cost]
  exact e1.sure s _ e2.tk (Int.le_trans hnm e2.fits)
/-- what lies in a block, in all later worlds. -/
theorem row_later {w W : World} {g : Nat} {o : Obj} (h : w.heap[g]? = some o) (hW : Below w.heap.size w W) : W.heap[g]? = some o := (hW.block _ (Array.getElem?_eq_some_iff.1 h).1).trans h
end Go.Proofs.YtmihpgccdknhfaaDoor
namespace Go.Proofs.YtmihpgccdknhfaaDoor
open Go Go.RowKit
set_option linter.unusedVariables false

theorem sumF_front (f : Nat → Int) : ∀ k, sumF f (k + 1) = f 0 + sumF (fun i => f (i + 1)) k
  | 0 => by simp [sumF]
  | k + 1 => by
    rw [sumF, sumF_front f k, sumF]
    omega
def pzS (h : Lt → Int → Int) : List Lt → List Int → Int
  | [], _ => 0
  | _, [] => 0
  | x :: L, t :: T => h x t + pzS h L T
theorem sumF_pz (h : Lt → Int → Int) : ∀ (L : List Lt) (T : List Int), T.length = L.length → sumF (fun i => h (L.getD i ltZ) (T.getD i 0)) L.length = pzS h L T
  | [], _, _ => by simp [sumF, pzS]
  | x :: L, [], e => by simp at e
  | x :: L, t :: T, e => by
    rw [List.length_cons, sumF_front]
    have := sumF_pz h L T (by simpa using e)
    simp only [List.getD_cons_zero, List.getD_cons_succ] at this ⊢
    rw [this, pzS]
theorem pz_app (h : Lt → Int → Int) : ∀ (P : List Lt) (B : List Int) (Q : List Lt) (A : List Int), B.length = P.length → pzS h (P ++ Q) (B ++ A) = pzS h P B + pzS h Q A
  | [], [], Q, A, _ => by simp [pzS]
  | [], b :: B, Q, A, e => by simp at e
  | x :: P, [], Q, A, e => by simp at e
  | x :: P, b :: B, Q, A, e => by
    have := pz_app h P B Q A (by simpa using e)
    simp only [List.cons_append, pzS, this]
    omega
def azP (h : Lt → Int → Prop) : List Lt → List Int → Prop
  | [], [] => True
  | x :: L, t :: T => h x t ∧ azP h L T
  | _, _ => False
theorem tk_az : ∀ (L : List Lt) (T : List Int), TkOk L T ↔ azP (fun x t => 0 ≤ t ∧ t ≤ x.u) L T
  | [], [] => by simp [TkOk, azP]
  | [], t :: T => by simp [TkOk, azP]
  | x :: L, [] => by simp [TkOk, azP]
  | x :: L, t :: T => by
    have ih := tk_az L T
    unfold azP
    rw [← ih]
    constructor
    · rintro ⟨h1, h2⟩
      refine ⟨h2 0 (by simp), by simpa using h1, fun i hi => by simpa using h2 (i + 1) (by simpa using hi)⟩
    · rintro ⟨h1, h2, h3⟩
      refine ⟨by simpa using h2, fun i hi => ?_⟩
      match i with
      | 0 => simpa using h1
      | i + 1 => simpa using h3 i (by simpa using hi)
theorem az_app (h : Lt → Int → Prop) : ∀ (P : List Lt) (B : List Int) (Q : List Lt) (A : List Int), B.length = P.length → (azP h (P ++ Q) (B ++ A) ↔ azP h P B ∧ azP h Q A)
  | [], [], Q, A, _ => by simp [azP]
  | [], b :: B, Q, A, e => by simp at e
  | x :: P, [], Q, A, e => by simp at e
  | x :: P, b :: B, Q, A, e => by
    have := az_app h P B Q A (by simpa using e)
    simp only [List.cons_append, azP, this, and_assoc]
section
variable {P Q : List Lt} {A B : List Int} {x : Lt} {t0 : Int}
theorem gs_pz {L : List Lt} {T : List Int} (h : T.length = L.length) (g : Int) : gs L T g L.length = pzS (fun y t => if y.g = g then t * y.v else 0) L T := by
  rw [← sumF_pz _ L T h]
  rfl
theorem co_pz {L : List Lt} {T : List Int} (h : T.length = L.length) : co L T = pzS (fun y t => t * y.c) L T := by
  rw [← sumF_pz _ L T h]
  rfl
theorem turn_pz (h : Lt → Int → Int) (hB : B.length = P.length) (hA : A.length = Q.length) : pzS h (Q ++ P ++ [x]) (A ++ B ++ [t0]) = pzS h (P ++ Q) (B ++ A) + h x t0 := by
  rw [pz_app h (Q ++ P) (A ++ B) [x] [t0] (by simp; omega), pz_app h Q A P B hA, pz_app h P B Q A hB]
  simp only [pzS]
  omega
theorem turn_wo (hB : B.length = P.length) (hA : A.length = Q.length) (hv : x.v = 0) (C : List Int) : wo (Q ++ P ++ [x]) C (A ++ B ++ [t0]) = wo (P ++ Q) C (B ++ A) := by
  unfold wo
  apply sumF_same
  intro j hj
  unfold woF
  rw [gs_pz (by simp; omega), gs_pz (by simp; omega), turn_pz _ hB hA, hv]
  simp
theorem turn_co (hB : B.length = P.length) (hA : A.length = Q.length) : co (Q ++ P ++ [x]) (A ++ B ++ [t0]) = co (P ++ Q) (B ++ A) + t0 * x.c := by
  rw [co_pz (by simp; omega), co_pz (by simp; omega), turn_pz _ hB hA]
theorem turn_tk (hB : B.length = P.length) (hA : A.length = Q.length) : TkOk (Q ++ P ++ [x]) (A ++ B ++ [t0]) ↔ TkOk (P ++ Q) (B ++ A) ∧ 0 ≤ t0 ∧ t0 ≤ x.u := by
  rw [tk_az, tk_az, az_app _ (Q ++ P) (A ++ B) [x] [t0] (by simp; omega), az_app _ Q A P B hA, az_app _ P B Q A hB]
  simp only [azP, and_true]
  constructor
  · rintro ⟨⟨a, b⟩, c⟩; exact ⟨⟨b, a⟩, c⟩
  · rintro ⟨⟨b, a⟩, c⟩; exact ⟨⟨a, b⟩, c⟩
theorem turn_ok {C : List Int} {n : Int} (h : OkP (P ++ Q) C n) (hl : (P ++ Q).length ≤ 6) (hx : ltOk C.length x) : OkP (Q ++ P ++ [x]) C n := by
  obtain ⟨⟨⟨h1, h2⟩, h3⟩, h4, h5, h6⟩ := h
  refine ⟨⟨⟨by simp only [List.length_append, List.length_cons, List.length_nil]; omega, by simp only [List.length_append, List.length_cons, List.length_nil] at hl ⊢; omega⟩, h3⟩, fun y hy => ?_, h5, h6⟩
  simp only [List.mem_append, List.mem_cons, List.not_mem_nil, or_false] at hy
  rcases hy with (hy | hy) | rfl
  · exact h4 y (by simp [hy])
  · exact h4 y (by simp [hy])
  · exact hx
theorem split_two {T : List Int} {p q : Nat} (h : T.length = p + q) : ∃ B A, T = B ++ A ∧ B.length = p ∧ A.length = q := ⟨T.take p, T.drop p, (List.take_append_drop p T).symm, by simp; omega, by simp; omega⟩
theorem split_three {T : List Int} {p q : Nat} (h : T.length = q + p + 1) : ∃ A B t, T = A ++ B ++ [t] ∧ A.length = q ∧ B.length = p := by
  obtain ⟨X, Y, e, h1, h2⟩ := split_two (T := T) (p := q + p) (q := 1) (by omega)
  obtain ⟨A, B, e2, h3, h4⟩ := split_two (T := X) (p := q) (q := p) h1
  obtain ⟨t, rfl⟩ := List.length_eq_one_iff.1 h2
  exact ⟨A, B, t, by rw [e, e2], h3, h4⟩
theorem turn_full {C : List Int} (hv : x.v = 0) : wo (Q ++ P ++ [x]) C (full (Q ++ P ++ [x])) = wo (P ++ Q) C (full (P ++ Q)) := by
  have e1 : full (Q ++ P ++ [x]) = full Q ++ full P ++ [x.u] := by simp [full]
  have e2 : full (P ++ Q) = full P ++ full Q := by simp [full]
  rw [e1, e2]
  exact turn_wo (full_len P) (full_len Q) hv C
theorem turn_code {C : List Int} {n bud : Int} (h : OkP (P ++ Q) C n) (hl : (P ++ Q).length ≤ 6) (hx : ltOk C.length x) (hv : x.v = 0) (h0 : 0 ≤ bud) (h1 : bud ≤ 100000) : beC (Q ++ P ++ [x]) C n bud = beC (P ++ Q) C n bud := by
  rw [be_code h h0 h1, be_code (turn_ok h hl hx) h0 h1, turn_full hv]
theorem turn_cost {C : List Int} {n bud : Int} (h : OkP (P ++ Q) C n) (hl : (P ++ Q).length ≤ 6) (hx : ltOk C.length x) (hv : x.v = 0) (h0 : 0 ≤ bud) (h1 : bud ≤ 100000) (hc : beC (P ++ Q) C n bud = 0) :
    (beR (P ++ Q) C n bud).2 = true → (beR (Q ++ P ++ [x]) C n bud).2 = true → (beR (P ++ Q) C n bud).1.cost = (beR (Q ++ P ++ [x]) C n bud).1.cost := by
  have f1 := (be_found hc).1
  have f2 := (be_found (show beC (Q ++ P ++ [x]) C n bud = 0 by rw [turn_code h hl hx hv h0 h1, hc])).1
  intro s1 s2
  obtain ⟨B, A, e1, hB, hA⟩ := split_two (T := (beR (P ++ Q) C n bud).1.best) (p := P.length) (q := Q.length) (by rw [f1.tk.1]; simp)
  obtain ⟨A', B', t, e2, hA', hB'⟩ := split_three (T := (beR (Q ++ P ++ [x]) C n bud).1.best) (p := P.length) (q := Q.length) (by rw [f2.tk.1]; simp only [List.length_append, List.length_cons, List.length_nil])
  have t1 := f1.tk
  have t2 := f2.tk
  have w1 := f1.fits
  have w2 := f2.fits
  have c1 := f1.cost
  have c2 := f2.cost
  rw [e1] at t1 w1 c1
  rw [e2] at t2 w2 c2
  have hxu : 0 ≤ x.u := hx.1.1
  have hxc : 0 ≤ x.c := hx.2.2.1.1
  apply Int.le_antisymm
  · have q := (turn_tk (x := x) hB' hA').1 t2
    have := f1.sure s1 (B' ++ A') q.1 (by rw [← turn_wo (x := x) (t0 := t) hB' hA' hv]; exact w2)
    have e := turn_co (x := x) (t0 := t) hB' hA'
    have := Int.mul_nonneg q.2.1 hxc
    omega
  · have q := (turn_tk (x := x) (t0 := 0) hB hA).2 ⟨t1, Int.le_refl _, hxu⟩
    have := f2.sure s2 (A ++ B ++ [0]) q (by rw [turn_wo hB hA hv]; exact w1)
    have e := turn_co (x := x) (t0 := 0) hB hA
    rw [Int.zero_mul] at e
    omega
end
end Go.Proofs.YtmihpgccdknhfaaDoor
