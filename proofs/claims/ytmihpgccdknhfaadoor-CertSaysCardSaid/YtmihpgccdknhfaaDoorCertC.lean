/-
  Check, Gap, Swap.
-/
import Derived.Test.YtmihpgccdknhfaaDoorCertMath
namespace Go.Proofs.YtmihpgccdknhfaaDoor
open Go Go.RowKit
set_option linter.unusedVariables false

theorem errOf_102 (A : Nat → Addr) : errOf A 102 = errAt (A 1) := rfl
theorem errOf_115 (A : Nat → Addr) : errOf A 115 = errAt (A 14) := rfl
theorem ck_err {L : List Lt} {C : List Int} {n : Int} {T : List Int} {wt c : Int} (A : Nat → Addr) (h : ckC L C n T wt c ≠ 0) : ∃ ae, errOf A (ckC L C n T wt c) = errAt ae := by
  rcases ck_code L C n T wt c with q | q | q | q | q
  · exact absurd q h
  all_goals (rw [q]; exact ⟨_, rfl⟩)
/-- a problem's block, and behind it a result's. -/
abbrev twoW (w : World) (lv cv : Value) (n : Int) (tv : Value) (wt c : Int) (s : Bool) (k : Int) : World := (w.alloc (pbO pbTy lv cv n)).alloc (reO tv wt c s k)
abbrev TwoCk (W : World) (g h : Nat) (lv cv : Value) (n : Int) (tv : Value) (wt c : Int) (s : Bool) (k : Int) : Prop :=
  (W.cell? ⟨g, 0, none⟩ = some lv ∧ W.cell? ⟨g, 1, none⟩ = some cv ∧ W.cell? ⟨g, 2, none⟩ = some (.int .i64 n)) ∧
    (W.cell? ⟨h, 0, none⟩ = some tv ∧ W.cell? ⟨h, 1, none⟩ = some (.int .i64 wt) ∧ W.cell? ⟨h, 2, none⟩ = some (.int .i64 c) ∧ W.cell? ⟨h, 3, none⟩ = some (.bool s) ∧ W.cell? ⟨h, 4, none⟩ = some (.int .i64 k))
theorem two_low (w : World) (lv cv : Value) (n : Int) (tv : Value) (wt c : Int) (s : Bool) (k : Int) {W : World} (hW : Below (twoW w lv cv n tv wt c s k).heap.size (twoW w lv cv n tv wt c s k) W) : Below w.heap.size w W := by
  have h1 := below_pb w pbTy lv cv n
  have h2 := h1.trans ((below_re (w.alloc (pbO pbTy lv cv n)) tv wt c s k).mono h1.size)
  exact h2.trans (hW.mono h2.size)
theorem two_ck (w : World) (lv cv : Value) (n : Int) (tv : Value) (wt c : Int) (s : Bool) (k : Int) {W : World} (hW : Below (twoW w lv cv n tv wt c s k).heap.size (twoW w lv cv n tv wt c s k) W) : TwoCk W w.heap.size (w.heap.size + 1) lv cv n tv wt c s k := by
  have h1 := ((pbAt_new w pbTy lv cv n).below (below_re (w.alloc (pbO pbTy lv cv n)) tv wt c s k) (Nat.le_refl _)).below hW (Nat.le_refl _)
  have h2 : (twoW w lv cv n tv wt c s k).heap[w.heap.size + 1]? = some (reO tv wt c s k) := by
    have := heap_alloc_new (w.alloc (pbO pbTy lv cv n)) (reO tv wt c s k)
    simpa using this
  exact ⟨h1.cells, (re_cells ((hW.block _ (Array.getElem?_eq_some_iff.1 h2).1).trans h2)).1⟩
theorem ck_tests {L : List Lt} {C : List Int} {n : Int} (T : List Int) (wt c : Int) (h : OkP L C n) :
    ((goodB L C n T = false ∧ ckC L C n T wt c = 102) ∨ (goodB L C n T = true ∧ (woV L C n T != wt) = true ∧ ckC L C n T wt c = 102) ∨ (goodB L C n T = true ∧ (woV L C n T != wt) = false ∧ (coV L C n T != c) = true ∧ ckC L C n T wt c = 102)) ∨
    ((goodB L C n T = true ∧ (woV L C n T != wt) = false ∧ (coV L C n T != c) = false) ∧ ((fiB L C n T = false ∧ ckC L C n T wt c = 115) ∨ (fiB L C n T = true ∧ ckC L C n T wt c = 0))) := by
  rcases ck_ways L C n T wt c with ⟨q, _⟩ | ⟨_, _, g, q⟩ | ⟨_, _, g, h1, q⟩ | ⟨_, _, g, h1, h2, q⟩ | ⟨_, _, g, h1, h2, h3, _, q⟩ | ⟨_, _, g, h1, h2, h3, _, q⟩
  · exact absurd h q
  · exact .inl (.inl ⟨g, q⟩)
  · exact .inl (.inr (.inl ⟨g, by simpa using h1, q⟩))
  · exact .inl (.inr (.inr ⟨g, by simp [h1], by simpa using h2, q⟩))
  · exact .inr ⟨⟨g, by simp [h1], by simp [h2]⟩, .inl ⟨h3, q⟩⟩
  · exact .inr ⟨⟨g, by simp [h1], by simp [h2]⟩, .inr ⟨h3, q⟩⟩
set_option maxRecDepth 100000 in
set_option maxHeartbeats 6400000 in
theorem ckAny21 (A : Nat → Addr) (lv cv : Value) (L : List Lt) (C : List Int) (n : Int) (tv : Value) (T : List Int) (wt c : Int) (s : Bool) (k : Int) (w : World) (h : PbR w lv cv L C) (hr : Reads .i64 w tv T) (hE : ErrsOn [1, 2, 4, 14] w A) :
    Calls Tryd.prog 11 #[pbA lv cv n, reA tv wt c s k] w fun e w' => e = .returned (errOf A (ckC L C n T wt c)) ∧ Below w.heap.size w w' := by
  have hlow := hidden (fun W hW => two_low w lv cv n tv wt c s k (W := W) hW)
  have hcel := hidden (fun W hW => two_ck w lv cv n tv wt c s k (W := W) hW)
  have hE2 := hidden (fun W hW => hE.below (hlow.out W hW) (Nat.le_refl _))
  have hV := hidden (fun W hW => ltValid_any A lv cv L C n W (h.below (hlow.out W hW) (Nat.le_refl _)) ((hE2.out W hW).sub (by simp)))
  have hWo := hidden (fun W hW => ltWorth2_any A lv cv L C n tv T W (h.below (hlow.out W hW) (Nat.le_refl _)) (hr.below (hlow.out W hW) (Nat.le_refl _)) ((hE2.out W hW).sub (by simp)))
  have hCo := hidden (fun W hW => ltCost_any A lv cv L C n tv T W (h.below (hlow.out W hW) (Nat.le_refl _)) (hr.below (hlow.out W hW) (Nat.le_refl _)) ((hE2.out W hW).sub (by simp)))
  have hFi := hidden (fun W hW => ltFits_any A lv cv L C n tv T W (h.below (hlow.out W hW) (Nat.le_refl _)) (hr.below (hlow.out W hW) (Nat.le_refl _)) ((hE2.out W hW).sub (by simp)))
  obtain ⟨la, lc, rfl⟩ := row_slice h.lots
  obtain ⟨ca, cc, rfl⟩ := reads_slice h.caps
  obtain ⟨ta, tc, rfl⟩ := reads_slice hr
  obtain ⟨⟨c0, c1, c2⟩, ⟨z0, z1, z2, z3, z4⟩⟩ := hcel.out _ (Below.refl _ _)
  clear h hr hE
  by_cases hok : OkP L C n
  · have hV1 := hidden (hV.out _ (Below.refl _ _))
    rw [pbC_ok hok, errOf_fine] at hV1
    have hways := ck_tests T wt c hok
    clear hV hok
    generalize ckC L C n T wt c = code at *
    generalize goodB L C n T = gb at *
    generalize woV L C n T = wv at *
    generalize coV L C n T = kv at *
    generalize fiB L C n T = fb at *
    rcases hways with hways | ⟨⟨rfl, d1, d2⟩, hways⟩
    · rcases hways with ⟨rfl, rfl⟩ | ⟨rfl, d1, rfl⟩ | ⟨rfl, d1, d2, rfl⟩
      all_goals
        rw [errOf_102]
        clear hFi
        go_enter Tryd.func11, Tryd.ntmps11
        go_wp2_with fail
        (with_reducible refine hV1.out.mono ?_)
        rintro e w1 ⟨rfl, hb1⟩
        clear c0 c1 c2 z0 z1 z2 z3 z4 hV1
        obtain ⟨⟨c0, c1, c2⟩, ⟨z0, z1, z2, z3, z4⟩⟩ := hcel.out _ hb1
        have hW1 := hidden (hWo.out _ hb1)
        replace hb1 := hidden hb1
        clear hWo
        go_wp2_with fail
        (with_reducible refine hW1.out.mono ?_)
        rintro e w2 ⟨rfl, hb2⟩
        replace hb2 := hb1.out.trans (hb2.mono hb1.out.size)
        clear c0 c1 c2 z0 z1 z2 z3 z4 hW1 hb1
        obtain ⟨⟨c0, c1, c2⟩, ⟨z0, z1, z2, z3, z4⟩⟩ := hcel.out _ hb2
        have hC1 := hidden (hCo.out _ hb2)
        replace hb2 := hidden hb2
        clear hCo
        go_wp2_with fail
        (with_reducible refine hC1.out.mono ?_)
        rintro e w3 ⟨rfl, hb3⟩
        replace hb3 := hb2.out.trans (hb3.mono hb2.out.size)
        clear c0 c1 c2 z0 z1 z2 z3 z4 hC1 hb2
        obtain ⟨⟨c0, c1, c2⟩, ⟨z0, z1, z2, z3, z4⟩⟩ := hcel.out _ hb3
        have eS : w3.cell? ⟨0, 0, none⟩ = some (errAt (A 1)) := hE2.out _ hb3 1 (by simp)
        have hend := hidden (hlow.out _ hb3)
        clear hb3 hE2 hlow hcel
        go_wp2
        go_ret
        exact ⟨rfl, hend.out⟩
    · rcases hways with ⟨rfl, rfl⟩ | ⟨rfl, rfl⟩
      all_goals
        first | rw [errOf_115] | rw [errOf_fine]
        go_enter Tryd.func11, Tryd.ntmps11
        go_wp2_with fail
        (with_reducible refine hV1.out.mono ?_)
        rintro e w1 ⟨rfl, hb1⟩
        clear c0 c1 c2 z0 z1 z2 z3 z4 hV1
        obtain ⟨⟨c0, c1, c2⟩, ⟨z0, z1, z2, z3, z4⟩⟩ := hcel.out _ hb1
        have hW1 := hidden (hWo.out _ hb1)
        replace hb1 := hidden hb1
        clear hWo
        go_wp2_with fail
        (with_reducible refine hW1.out.mono ?_)
        rintro e w2 ⟨rfl, hb2⟩
        replace hb2 := hb1.out.trans (hb2.mono hb1.out.size)
        clear c0 c1 c2 z0 z1 z2 z3 z4 hW1 hb1
        obtain ⟨⟨c0, c1, c2⟩, ⟨z0, z1, z2, z3, z4⟩⟩ := hcel.out _ hb2
        have hC1 := hidden (hCo.out _ hb2)
        replace hb2 := hidden hb2
        clear hCo
        go_wp2_with fail
        (with_reducible refine hC1.out.mono ?_)
        rintro e w3 ⟨rfl, hb3⟩
        replace hb3 := hb2.out.trans (hb3.mono hb2.out.size)
        clear c0 c1 c2 z0 z1 z2 z3 z4 hC1 hb2
        obtain ⟨⟨c0, c1, c2⟩, ⟨z0, z1, z2, z3, z4⟩⟩ := hcel.out _ hb3
        have hF1 := hidden (hFi.out _ hb3)
        replace hb3 := hidden hb3
        clear hFi
        go_wp2_with fail
        (with_reducible refine hF1.out.mono ?_)
        rintro e w4 ⟨rfl, hb4⟩
        replace hb4 := hb3.out.trans (hb4.mono hb3.out.size)
        clear c0 c1 c2 z0 z1 z2 z3 z4 hF1 hb3
        have eN : w4.cell? ⟨1, 0, none⟩ = some (errAt (A 14)) := hE2.out _ hb4 14 (by simp)
        have hend := hidden (hlow.out _ hb4)
        clear hb4 hE2 hlow hcel
        go_wp2
        go_ret
        exact ⟨rfl, hend.out⟩
  · have hne := errOf_pb A hok
    have hV1 := hidden (hV.out _ (Below.refl _ _))
    have hck : ckC L C n T wt c = pbC L C n := if_neg hok
    rw [hck]
    clear hV hok hWo hCo hFi hE2 hck
    generalize errOf A (pbC L C n) = ev at *
    rcases hne with rfl | rfl
    all_goals
      go_enter Tryd.func11, Tryd.ntmps11
      go_wp2_with fail
      (with_reducible refine hV1.out.mono ?_)
      rintro e w1 ⟨rfl, hb1⟩
      have hend := hidden (hlow.out _ hb1)
      clear c0 c1 c2 z0 z1 z2 z3 z4 hV1 hb1 hlow hcel
      go_wp2
      go_ret
      exact ⟨rfl, hend.out⟩
def GpAt (A : Nat → Addr) (L : List Lt) (C : List Int) (n : Int) (T : List Int) (wt c : Int) (w : World) (e : Ending) (w' : World) : Prop :=
  e = .returned (.tuple #[.int .i64 (gpV L C n T wt c), errOf A (ckC L C n T wt c)]) ∧ Below w.heap.size w w'
set_option maxRecDepth 100000 in
set_option maxHeartbeats 6400000 in
theorem gapAny21 (A : Nat → Addr) (lv cv : Value) (L : List Lt) (C : List Int) (n : Int) (tv : Value) (T : List Int) (wt c : Int) (s : Bool) (k : Int) (w : World) (h : PbR w lv cv L C) (hr : Reads .i64 w tv T) (hE : ErrsOn [1, 2, 4, 14] w A) :
    Calls Tryd.prog 12 #[pbA lv cv n, reA tv wt c s k] w (GpAt A L C n T wt c w) := by
  have hlow := hidden (fun W hW => two_low w lv cv n tv wt c s k (W := W) hW)
  have hcel := hidden (fun W hW => two_ck w lv cv n tv wt c s k (W := W) hW)
  have hE2 := hidden (fun W hW => hE.below (hlow.out W hW) (Nat.le_refl _))
  have hCk := hidden (ckAny21 A lv cv L C n tv T wt c s k _ (h.below (hlow.out _ (Below.refl _ _)) (Nat.le_refl _)) (hr.below (hlow.out _ (Below.refl _ _)) (Nat.le_refl _)) (hE2.out _ (Below.refl _ _)))
  obtain ⟨⟨c0, c1, c2⟩, ⟨z0, z1, z2, z3, z4⟩⟩ := hcel.out _ (Below.refl _ _)
  unfold GpAt
  by_cases h0 : ckC L C n T wt c = 0
  · obtain ⟨g1, g2, g3, g4, g5⟩ := gp_fine h0
    obtain ⟨hok, _, _, _, _⟩ := ck_fine.1 h0
    have hn0 := hok.2.2.2
    unfold capOk at hn0
    have hLe := hidden (fun W hW => least_yes A lv cv L C n 0 n W (h.below (hlow.out W hW) (Nat.le_refl _)) ((hE2.out W hW).sub (by simp)) hok (Nat.zero_le _) (by omega) (by omega))
    rw [g2, show ((0 : Nat) : Int) = 0 from rfl] at hLe
    rw [h0, errOf_fine] at hCk ⊢
    rw [g1]
    obtain ⟨la, lc, rfl⟩ := row_slice h.lots
    obtain ⟨ca, cc, rfl⟩ := reads_slice h.caps
    obtain ⟨ta, tc, rfl⟩ := reads_slice hr
    clear h hr hE hE2 h0 g1 g2 hok hn0
    generalize lsV L 0 n = ls at *
    have hd : decide (c < ls) = false := decide_eq_false (by omega)
    have hw : IntKind.i64.wrap (c - ls) = c - ls := by rw [IntKind.wrap_i64]; omega
    clear g3 g4 g5
    go_enter Tryd.func12, Tryd.ntmps12
    go_wp2_with fail
    (with_reducible refine hCk.out.mono ?_)
    rintro e w1 ⟨rfl, hb1⟩
    clear c0 c1 c2 z0 z1 z2 z3 z4 hCk
    obtain ⟨⟨c0, c1, c2⟩, ⟨z0, z1, z2, z3, z4⟩⟩ := hcel.out _ hb1
    have hL1 := hidden (hLe.out _ hb1)
    replace hb1 := hidden hb1
    clear hLe
    go_wp2_with fail
    (with_reducible refine hL1.out.mono ?_)
    rintro e w2 ⟨rfl, hb2⟩
    replace hb2 := hb1.out.trans (hb2.mono hb1.out.size)
    clear c0 c1 c2 z0 z1 z2 z3 z4 hL1 hb1
    obtain ⟨⟨c0, c1, c2⟩, ⟨z0, z1, z2, z3, z4⟩⟩ := hcel.out _ hb2
    have hend := hidden (hlow.out _ hb2)
    clear hb2 hlow hcel
    go_wp2
    go_ret2
    exact ⟨rfl, hend.out⟩
  · rw [gp_wrong h0]
    obtain ⟨ae, hae⟩ := ck_err A h0
    rw [hae] at hCk ⊢
    obtain ⟨la, lc, rfl⟩ := row_slice h.lots
    obtain ⟨ca, cc, rfl⟩ := reads_slice h.caps
    obtain ⟨ta, tc, rfl⟩ := reads_slice hr
    clear h hr hE hE2 h0 hae
    go_enter Tryd.func12, Tryd.ntmps12
    go_wp2_with fail
    (with_reducible refine hCk.out.mono ?_)
    rintro e w1 ⟨rfl, hb1⟩
    have hend := hidden (hlow.out _ hb1)
    clear c0 c1 c2 z0 z1 z2 z3 z4 hCk hb1 hlow hcel
    go_wp2
    go_ret2
    exact ⟨rfl, hend.out⟩
theorem own_shape21 {w : World} {base : Nat} {e : TypeId} {v : Value} {n : Nat} {xs : List Value} (h : w.ownsRow base e 1 v n xs) : ∃ a c, v = .slice a n c ∧ ((a = none ∧ n = 0 ∧ c = 0) ∨ ∃ g, a = some ⟨g, 0, none⟩) := by
  rcases h.2 with ⟨rfl, rfl⟩ | ⟨g, cap, cur, rfl, _⟩
  · exact ⟨_, _, rfl, .inl ⟨rfl, rfl, rfl⟩⟩
  · exact ⟨_, _, rfl, .inr ⟨g, rfl⟩⟩
/-- slices.Clone of some numbers: a row of the call's own. -/
def ClonedI (T : List Int) (w : World) (e : Ending) (w' : World) : Prop := ∃ g cc, e = .returned (.slice (some ⟨g, 0, none⟩) T.length cc) ∧ OnI w.heap.size g cc T.length w' T ∧ Below w.heap.size w w'
set_option maxRecDepth 100000 in
theorem cloneI_any (ad : Addr) (cp : Nat) (T : List Int) (w : World) (h : Reads .i64 w (.slice (some ad) T.length cp) T) (h0 : 0 < T.length) (h1 : T.length ≤ 1000) :
    Calls Tryd.prog 29 #[.slice (some ad) T.length cp] w (ClonedI T w) := by
  have kc := fun (w : World) (a : Option Addr) (n c : Nat) => Go.Lib.run_eql_slice_nil (P := Tryd.prog) w 26 3 a n c 0 0 Tryd.underlying26
  have hb0 := hidden ((Below.refl w.heap.size w).alloc (Nat.le_refl _) (.cells #[] 3))
  have hr := hidden (h.below hb0.out (Nat.le_refl _))
  have hB : w.heap.size ≤ (w.alloc (.cells #[] 3)).heap.size := hb0.out.size
  have hown0 : (w.alloc (.cells #[] 3)).ownsRow w.heap.size 3 1 (.slice (some ⟨w.heap.size, 0, none⟩) 0 0) 0 [] := World.ownsRow_made w #[] 0 (Nat.le_refl _) (by decide) rfl
  clear h
  unfold ClonedI
  go_enter Tryd.func29, Tryd.ntmps29
  go_wp2_with (at_builtin; refine wpList_app rfl _ _ 26 rfl 3 Tryd.underlying26 infoI64 rfl (by decide) w.heap.size _ 0 [] rfl hown0 rfl hr.out (by omega) (by omega) hB ?_)
  intro v' w1 hown1 hg1
  have hb := hb0.out.trans hg1
  have hown2 : w1.ownsRow w.heap.size 3 1 v' T.length (ivs T) := by simpa [ivs] using hown1
  obtain ⟨a, c, rfl, hs⟩ := own_shape21 hown2
  rcases hs with ⟨_, hz, _⟩ | ⟨g, rfl⟩
  · omega
  · have hend := hidden (show OnI w.heap.size g c T.length w1 T from ⟨rfl, hown2⟩)
    replace hb := hidden hb
    clear hown0 hown1 hown2 hg1 hr hb0
    go_wp2
    go_ret
    exact ⟨_, _, rfl, hend.out, hb.out⟩
/-- what Swap answers. -/
def SwAt (L : List Lt) (C : List Int) (n : Int) (T : List Int) (w : World) (e : Ending) (w' : World) : Prop :=
  ∃ o v, SwIs L C n T o ∧ e = .returned (.tuple #[v, .bool o.isSome]) ∧ Reads .i64 w' v (swL T o) ∧ Below w.heap.size w w'
def SwRel (L : List Lt) (C : List Int) (n : Int) (T : List Int) (base g cc : Nat) (w0 : World) (i : Value) (W : World) : Prop :=
  ∃ k : Nat, k ≤ T.length ∧ i = .int .i64 (k : Int) ∧ OnI base g cc T.length W T ∧ Below base w0 W ∧ ∀ j, j < k → fiB L C n (less T j) = false
set_option maxRecDepth 100000 in
set_option maxHeartbeats 6400000 in
theorem swapAny21 (A : Nat → Addr) (lv cv : Value) (L : List Lt) (C : List Int) (n : Int) (tv : Value) (T : List Int) (w : World) (h : PbR w lv cv L C) (hr : Reads .i64 w tv T) (hE : ErrsOn [2, 4] w A) :
    Calls Tryd.prog 14 #[pbA lv cv n, tv] w (SwAt L C n T w) := by
  have hb0 := below_pb w pbTy lv cv n
  have hpb := pbAt_new w pbTy lv cv n
  have hbx := hidden (fun W (hW : Below (w.alloc (pbO pbTy lv cv n)).heap.size (w.alloc (pbO pbTy lv cv n)) W) => hb0.trans (hW.mono hb0.size))
  have hc := hidden (fun W (hW : Below (w.alloc (pbO pbTy lv cv n)).heap.size (w.alloc (pbO pbTy lv cv n)) W) => (hpb.below hW (Nat.le_refl _)).cells)
  have hF := hidden (fun W hW tv' t' hr' => ltFits_any A lv cv L C n tv' t' W (h.below (hbx.out W hW) (Nat.le_refl _)) hr' (hE.below (hbx.out W hW) (Nat.le_refl _)))
  have hF1 := hidden (hF.out _ (Below.refl _ _) tv T (hr.below (hbx.out _ (Below.refl _ _)) (Nat.le_refl _)))
  have hrW := hidden (fun W hW => hr.below (hbx.out W hW) (Nat.le_refl _))
  obtain ⟨d0, d1, d2⟩ := hc.out _ (Below.refl _ _)
  obtain ⟨la, lc, rfl⟩ := row_slice h.lots
  obtain ⟨ca, cc, rfl⟩ := reads_slice h.caps
  clear h hE hb0 hpb
  unfold SwAt
  by_cases hf : fiB L C n T = true
  · obtain ⟨hok, htk, hwo⟩ := fi_good hf
    have hl0 : 0 < T.length := by have := htk.1; have := hok.1.1.1; omega
    have hl1 : T.length ≤ 8 := by have := htk.1; have := hok.1.1.2; omega
    have htb := hidden (fun k (hk : k < T.length) => show 0 ≤ T.getD k 0 ∧ T.getD k 0 ≤ 1000 from by
      have h1 := htk.2 k (by have := htk.1; omega)
      have h2 := (hok.lot (k := k) (by have := htk.1; omega)).1
      omega)
    obtain ⟨bt, ot, ct, rfl⟩ := reads_some hr hl0
    have hSN := hidden (fun (hn : ∀ j, j < T.length → fiB L C n (less T j) = false) => show SwIs L C n T none from .inr hn)
    have hSS := hidden (fun i (hi : i < T.length) (h1 : fiB L C n (less T i) = true) (h2 : ∀ j, j < i → fiB L C n (less T j) = false) => show SwIs L C n T (some i) from ⟨hf, hi, h1, h2⟩)
    rw [hf] at hF1
    clear hr hok htk hwo hf
    go_enter Tryd.func14, Tryd.ntmps14
    go_wp2_with fail
    generalize w.alloc (pbO pbTy (.slice la L.length lc) (.slice ca C.length cc) n) = wP at *
    (with_reducible refine hF1.out.mono ?_)
    rintro e w1 ⟨rfl, hb1⟩
    have hK := hidden (cloneI_any _ ct T w1 (hrW.out _ hb1) hl0 (by omega))
    unfold ClonedI at hK
    replace hb1 := hidden hb1
    clear hF1 d0 d1 d2 hrW
    go_wp2_with fail
    (with_reducible refine hK.out.mono ?_)
    rintro e w2 ⟨g, cc2, rfl, hO2, hb2⟩
    replace hb2 := hidden (hb1.out.trans (hb2.mono hb1.out.size))
    have hO3 : OnI wP.heap.size g cc2 T.length w2 T := ⟨rfl, own_from hO2.own hb1.out.size⟩
    have hgl := hO3.low
    replace hO3 := hidden hO3
    clear hK hO2 hb1
    go_wp2_with fail
    go_loopw [16] (fun i wr => SwRel L C n T wP.heap.size g cc2 wP i wr) (fun i _ => T.length - (RowKit.intOf i).toNat)
    case atStart => exact ⟨0, Nat.zero_le _, rfl, hO3.out, hb2.out, fun j hj => by omega⟩
    case round =>
      clear hO3 hb2
      obtain ⟨k, hk, rfl, hO, hB, hno⟩ := hrel
      by_cases hlt : k < T.length
      · have hkI : (k : Int) < (T.length : Int) := by omega
        obtain ⟨t0, t1⟩ := htb.out k hlt
        have q0 := hO.cell hlt
        have f0 := hO.frozen k
        have hO2 := hO.set hlt (T.getD k 0 - 1)
        have hls : T.set k (T.getD k 0 - 1) = less T k := rfl
        rw [hls] at hO2
        have hlk : (less T k).getD k 0 = T.getD k 0 - 1 := by rw [less_at hlt, if_pos rfl]
        have hbk := hidden (less_back T k hlt)
        obtain ⟨t, ht⟩ : ∃ t, T.getD k 0 = t := ⟨_, rfl⟩
        obtain ⟨u, hu⟩ : ∃ u, t - 1 = u := ⟨_, rfl⟩
        rw [ht] at q0 t0 t1 hlk hbk hO2
        rw [hu] at hlk hO2
        have hw1 : IntKind.i64.wrap (t - 1) = u := by rw [IntKind.wrap_i64]; omega
        have hw2 : IntKind.i64.wrap (u + 1) = t := by rw [IntKind.wrap_i64]; omega
        have hB2 : Below wP.heap.size wP (wr.setCell ⟨g, k, none⟩ (.int .i64 u)) := hB.setCell hgl _
        have hF2 := hidden (hF.out _ hB2 _ _ hO2.reads)
        obtain ⟨c0, c1, c2⟩ := hc.out _ hB2
        obtain ⟨e0, e1, e2⟩ := hc.out _ hB
        have hO2' := hidden (fun W hW => hO2.below (w' := W) hW (Nat.le_refl _))
        have hBW := hidden (fun W (hW : Below (wr.setCell ⟨g, k, none⟩ (.int .i64 u)).heap.size (wr.setCell ⟨g, k, none⟩ (.int .i64 u)) W) => hB2.trans (hW.mono hB2.size))
        have hnok := hidden hno
        have hn1 := hidden (hSS.out k hlt)
        clear hls ht hu hO hO2 hB hB2 hno hF hSN hSS
        cases hfk : fiB L C n (less T k)
        · rw [hfk] at hF2
          go_wp2_with fail
          (with_reducible refine hF2.out.mono ?_)
          rintro e w5 ⟨rfl, hb5⟩
          clear c0 c1 c2 e0 e1 e2 q0 f0
          have hO5 := hO2'.out _ hb5
          have q0 := hO5.cell hlt
          have f0 := hO5.frozen k
          rw [hlk] at q0
          have hO6 := hidden (hO5.set hlt t)
          rw [hbk.out] at hO6
          have hB6 := hidden (show Below wP.heap.size wP (w5.setCell ⟨g, k, none⟩ (.int .i64 t)) from (hBW.out _ hb5).setCell hgl _)
          clear hO5 hb5 hF2 hBW hO2' hc hbx hn1
          go_wp2
          go_roundw
          case rel => exact ⟨k + 1, hlt, by go_num, hO6.out, hB6.out, fun j hj => by
            by_cases e : j = k
            · subst e; exact hfk
            · exact hnok.out j (by omega)⟩
          case measure => simp [RowKit.intOf]; omega
        · rw [hfk] at hF2
          go_wp2_with fail
          (with_reducible refine hF2.out.mono ?_)
          rintro e w5 ⟨rfl, hb5⟩
          have hend := hidden (hbx.out _ (hBW.out _ hb5))
          have hre := hidden (hO2'.out _ hb5).reads
          clear hb5 hF2 hBW hO2' hc hbx
          go_wp2
          go_ret2
          exact ⟨some k, _, hn1.out hfk hnok.out, rfl, hre.out, hend.out⟩
      · obtain rfl : k = T.length := by omega
        have hend := hidden (hbx.out _ hB)
        have hn := hidden (hSN.out hno)
        clear hB hO hno hF hSS hSN hc hbx
        go_wp2
        go_ret2
        exact ⟨none, _, hn.out, rfl, Reads.nil _ _, hend.out⟩
  · have hf0 : fiB L C n T = false := by simpa using hf
    rw [hf0] at hF1
    obtain ⟨ta, tc, rfl⟩ := reads_slice hr
    clear hf hr hrW hF
    go_enter Tryd.func14, Tryd.ntmps14
    go_wp2_with fail
    (with_reducible refine hF1.out.mono ?_)
    rintro e w1 ⟨rfl, hb1⟩
    have hend := hidden (hbx.out _ hb1)
    clear d0 d1 d2 hF1 hb1 hc hbx
    go_wp2
    go_ret2
    exact ⟨none, _, .inl hf0, rfl, Reads.nil _ _, hend.out⟩
end Go.Proofs.YtmihpgccdknhfaaDoor
