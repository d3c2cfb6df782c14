/-
  The split of the target; Size.
-/
import Derived.Test.YtlanggdmdpjfbaaDoorFund1
import Derived.Test.YtlanggdmdpjfbaaDoorFund2
import Derived.Test.YtlanggdmdpjfbaaDoorStress3
namespace Go.Proofs.YtlanggdmdpjfbaaDoor
open Go Go.RowKit
set_option linter.unusedVariables false

def slC (W : Int) (L : List Int) : Int := if L.length = 0 then 0 else shC W (wtL L)
def slL (W : Int) (L : List Int) : List Int := if L.length = 0 then [] else spA W (wtL L)
theorem sl_si {T : LTab} {f c : Int} {L : List Int} (h1 : clC 0 f c = 0) (h2 : (covR T L).c = 0) : siC T f c L = slC (siW T f c L) L ∧ siL T f c L = (if slC (siW T f c L) L = 0 then slL (siW T f c L) L else []) := by
  rcases si_ways T f c L with ⟨q, _⟩ | ⟨_, q, _⟩ | ⟨_, _, _, q4, q5⟩ | ⟨_, _, _, q4, q5⟩
  · rw [h1] at q; simp at q
  · exact absurd h2 q
  · have e : slC (siW T f c L) L = 0 := if_pos q4
    refine ⟨by rw [q5, e], ?_⟩
    unfold siL
    rw [if_neg (fun h => h.2 q4), if_pos e]
    exact (if_pos q4).symm
  · have e : slC (siW T f c L) L = shC (siW T f c L) (wtL L) := if_neg q4
    have e2 : slL (siW T f c L) L = spA (siW T f c L) (wtL L) := if_neg q4
    refine ⟨by rw [q5, e], ?_⟩
    unfold siL
    rw [q5, e, e2]
    unfold spA
    by_cases h : shC (siW T f c L) (wtL L) = 0
    · rw [if_pos ⟨h, q4⟩, if_pos h, if_pos h]
    · rw [if_neg (fun k => h k.1), if_neg h]
def SplAt24 (A : Nat → Addr) (W : Int) (L : List Int) (w : World) (e : Ending) (w' : World) : Prop := ∃ v', e = .returned (.tuple #[v', errOf A (slC W L)]) ∧ Reads .i64 w' v' (slL W L) ∧ (∀ b, v'.ownBlock = some b → w.heap.size ≤ b) ∧ Below w.heap.size w w'
set_option maxRecDepth 100000 in
set_option maxHeartbeats 3200000 in
theorem fsplit_any24 (A : Nat → Addr) (W : Int) (v : Value) (L : List Int) (w : World) (hr : Reads .i64 w v L) (hz : AllAm L) (hl : L.length ≤ 32) (hE : ErrsOn [2, 3, 4, 5] w A) :
    Calls Tryd.prog 25 #[.int .i64 W, v] w (SplAt24 A W L w) := by
  unfold SplAt24
  by_cases h0 : L.length = 0
  · rw [show slC W L = 0 from if_pos h0, show slL W L = [] from if_pos h0, errOf_fine]
    obtain ⟨a1, c1, rfl⟩ := reads_slice hr
    rw [h0]
    clear hr hz hl hE
    go_enter Tryd.func25, Tryd.ntmps25
    go_wp2
    go_ret2
    exact ⟨.slice none 0 0, rfl, Reads.nil _ _, own_nil23 _, Below.refl _ _⟩
  · have h1 : 0 < L.length := by omega
    rw [show slC W L = shC W (wtL L) from if_neg h0, show slL W L = spA W (wtL L) from if_neg h0]
    have hX := hidden (max_any24 v L w hr h1 (by omega))
    have hmz := mx_zero (am_allW hz) h1
    by_cases hs : smW L = 0
    · rw [hmz.2 hs] at hX
      rw [show wtL L = List.replicate L.length 1 from if_pos hs]
      have hb1 := (Below.refl w.heap.size w).alloc (Nat.le_refl _) (.cells #[.int .i64 1] 2)
      have hc1 : (w.alloc (.cells #[.int .i64 1] 2)).cell? ⟨w.heap.size, 0, none⟩ = some (.int .i64 1) := by
        rw [cell_of_row _ _ _ _ _ _ (heap_alloc_new w _)]; rfl
      have hR := hidden ((repeat_one24 w.heap.size L.length _ hc1 h1 (by omega)).mono (fun e w' h => show ∃ G, e = .returned (.slice (some ⟨G, 0, none⟩) L.length L.length) ∧ Reads .i64 w' (.slice (some ⟨G, 0, none⟩) L.length L.length) (List.replicate L.length 1) ∧ Below (w.alloc (.cells #[.int .i64 1] 2)).heap.size (w.alloc (.cells #[.int .i64 1] 2)) w' from ⟨_, h⟩))
      have hS := hidden (fun W' (hW : Below w.heap.size w W') v' hv' => split_own23 A W v' (List.replicate L.length 1) W' hv' (hE.below hW (Nat.le_refl _)))
      unfold SpOwn23 at hS
      generalize shC W (List.replicate L.length 1) = sc at *
      generalize spA W (List.replicate L.length 1) = sl at *
      have h1I : ¬ (L.length : Int) = 0 := by omega
      replace hb1 := hidden hb1
      obtain ⟨a1, c1, rfl⟩ := reads_slice hr
      clear hr hz hl hE hmz hs hc1 h1
      go_enter Tryd.func25, Tryd.ntmps25
      go_wp2_with fail
      refine hX.out.mono ?_
      rintro e w1 ⟨rfl, rfl⟩
      clear hX
      go_wp2_with fail
      refine hR.out.mono ?_
      rintro e w2 ⟨G, rfl, hv2, hb2⟩
      have hb3 := hidden (hb1.out.trans (hb2.mono hb1.out.size))
      have hS1 := hidden (hS.out _ hb3.out _ hv2)
      clear hS hR hv2 hb2 hb1
      go_wp2_with fail
      refine hS1.out.mono ?_
      rintro e w3 ⟨v', rfl, hv', ho, hb4⟩
      have hfin := hidden (show (∀ b, v'.ownBlock = some b → w1.heap.size ≤ b) ∧ Below w1.heap.size w1 w3 from ⟨fun b hb => Nat.le_trans hb3.out.size (ho b hb), hb3.out.trans (hb4.mono hb3.out.size)⟩)
      replace hv' := hidden hv'
      clear hS1 ho hb4 hb3
      go_wp2
      go_ret2
      exact ⟨_, rfl, hv'.out, hfin.out.1, hfin.out.2⟩
    · have hm0 : ¬ mxL L (L.length - 1) = 0 := fun q => hs (hmz.1 q)
      rw [show wtL L = L from if_neg hs]
      have hS := hidden (split_own23 A W v L w hr hE)
      unfold SpOwn23 at hS
      have hm1 : (mxL L (L.length - 1) == 0) = false := by simpa using hm0
      generalize mxL L (L.length - 1) = m at *
      generalize shC W L = sc at *
      generalize spA W L = sl at *
      have h1I : ¬ (L.length : Int) = 0 := by omega
      obtain ⟨a1, c1, rfl⟩ := reads_slice hr
      clear hr hz hl hE hmz hs h1
      go_enter Tryd.func25, Tryd.ntmps25
      go_wp2_with fail
      refine hX.out.mono ?_
      rintro e w1 ⟨rfl, rfl⟩
      clear hX
      go_wp2_with fail
      refine hS.out.mono ?_
      rintro e w3 ⟨v', rfl, hv', ho, hb4⟩
      replace hv' := hidden hv'
      replace ho := hidden ho
      replace hb4 := hidden hb4
      clear hS
      go_wp2
      go_ret2
      exact ⟨_, rfl, hv'.out, ho.out, hb4.out⟩

/-! A fund in a block. -/
abbrev fuA (f c t s : Int) (v : Value) : Value := .agg #[.int .i64 f, .int .i64 c, .int .i64 t, .int .i64 s, v]
abbrev fuO (T : TypeId) (f c t s : Int) (v : Value) : Obj := .cells #[.int .i64 f, .int .i64 c, .int .i64 t, .int .i64 s, v] T
abbrev fuTy : TypeId := 41
theorem fu_size : (Tryd.prog.info? fuTy).map (·.size) = some 5 := by kernel_rfl
theorem fu_end {a : Act} {w : World} {fn : Func} {R : Ending → World → Prop} {p u : Tmp} {g : Nat} {v vb : Value} {f c t s : Int}
    (h : fn.results = #[.cell p fuTy, .tmp u]) (hd : a.defers = []) (hp : a.tmps.getD p undef = .pointer (some ⟨g, 0, none⟩)) (hb : a.tmps.getD u undef = vb) (hg : w.heap[g]? = some (fuO fuTy f c t s v))
    (hR : R (.returned (.tuple #[fuA f c t s v, vb])) w) : bodyPost Tryd.prog fn R .ret a w := by
  subst hb
  exact bodyPost_ret (results_cell2 h _ _ _ _ _ _ _ hp hg Tryd.underlying41 rfl fu_size) hd hR
section
variable {T : TypeId}
theorem fu_cells {w : World} {g : Nat} {v : Value} {f c t s : Int} (h : w.heap[g]? = some (fuO T f c t s v)) :
    (w.cell? ⟨g, 0, none⟩ = some (.int .i64 f) ∧ w.cell? ⟨g, 1, none⟩ = some (.int .i64 c) ∧ w.cell? ⟨g, 2, none⟩ = some (.int .i64 t) ∧ w.cell? ⟨g, 3, none⟩ = some (.int .i64 s) ∧ w.cell? ⟨g, 4, none⟩ = some v) ∧ (∀ i, w.frozen? ⟨g, i, none⟩ = false) := by
  refine ⟨⟨?_, ?_, ?_, ?_, ?_⟩, fun i => by simp [World.frozen?, h]⟩ <;> (rw [cell_of_row _ _ _ _ _ _ h]; rfl)
abbrev fuPut (w : World) (g : Nat) (f c t s : Int) (v : Value) : World := ((((w.setCell ⟨g, 0, none⟩ (.int .i64 f)).setCell ⟨g, 1, none⟩ (.int .i64 c)).setCell ⟨g, 2, none⟩ (.int .i64 t)).setCell ⟨g, 3, none⟩ (.int .i64 s)).setCell ⟨g, 4, none⟩ v
theorem fu_put {w : World} {g : Nat} {v : Value} {f c t s : Int} (h : w.heap[g]? = some (fuO T f c t s v)) (f' c' t' s' : Int) (v' : Value) : (fuPut w g f' c' t' s' v').heap[g]? = some (fuO T f' c' t' s' v') := by
  show (((((w.setCell ⟨g, 0, none⟩ (.int .i64 f')).setCell ⟨g, 1, none⟩ (.int .i64 c')).setCell ⟨g, 2, none⟩ (.int .i64 t')).setCell ⟨g, 3, none⟩ (.int .i64 s')).setCell ⟨g, 4, none⟩ v').heap[g]? = _
  rw [heap_setCell_row (heap_setCell_row (heap_setCell_row (heap_setCell_row (heap_setCell_row h _) _) _) _) _]
  rfl
theorem fu_put_trd (w : World) (g : Nat) (f' c' t' s' : Int) (v' : Value) : Trd (· = g) w (fuPut w g f' c' t' s' v') :=
  ((((Trd.setCell (S := (· = g)) w ⟨g, 0, none⟩ _ rfl).trans (Trd.setCell _ ⟨g, 1, none⟩ _ rfl)).trans (Trd.setCell _ ⟨g, 2, none⟩ _ rfl)).trans (Trd.setCell _ ⟨g, 3, none⟩ _ rfl)).trans (Trd.setCell _ ⟨g, 4, none⟩ _ rfl)
theorem fu_put_below {w W : World} {B g : Nat} (h : Below B w W) (hg : B ≤ g) (f' c' t' s' : Int) (v' : Value) : Below B w (fuPut W g f' c' t' s' v') := ((((h.setCell hg _).setCell hg _).setCell hg _).setCell hg _).setCell hg _
end
theorem row_later24 {w W : World} {g : Nat} {o : Obj} (h : w.heap[g]? = some o) (hW : Below w.heap.size w W) : W.heap[g]? = some o := (hW.block _ (Array.getElem?_eq_some_iff.1 h).1).trans h
theorem errOf_bad24 (A : Nat → Addr) {c : Int} (h : c ≠ 0) : ∃ a, errOf A c = errAt a := ⟨_, if_neg h⟩
def SzAt24 (A : Nat → Addr) (T : LTab) (f c : Int) (L : List Int) (w : World) (e : Ending) (w' : World) : Prop :=
  ∃ v', e = .returned (.tuple #[fuA (siN T f c L f) (siN T f c L c) (siN T f c L (siW T f c L)) (siN T f c L (covR T L).s) v', errOf A (siC T f c L)]) ∧ Reads .i64 w' v' (siL T f c L) ∧ (∀ b, v'.ownBlock = some b → w.heap.size ≤ b) ∧ Below w.heap.size w w'
theorem si_bad {T : LTab} {f c : Int} {L : List Int} (h : siC T f c L ≠ 0) : (∀ x, siN T f c L x = 0) ∧ siL T f c L = [] := ⟨fun x => if_neg h, if_neg fun q => h q.1⟩
theorem si_good {T : LTab} {f c : Int} {L : List Int} (h : siC T f c L = 0) : ∀ x, siN T f c L x = x := fun x => if_pos h
set_option maxRecDepth 100000 in
set_option maxHeartbeats 1600000 in
theorem size_any24 (A : Nat → Addr) (w : World) (B g n : Nat) (T : LTab) (h : LoAt w B g n T) (f c : Int) (v : Value) (L : List Int) (hr : Reads .i64 w v L) (hE : ErrsOn [2, 3, 4, 5] w A) :
    Calls Tryd.prog 10 #[.pointer (some ⟨g, 0, none⟩), .int .i64 f, .int .i64 c, v] w (SzAt24 A T f c L w) := by
  unfold SzAt24
  have hb1 := (Below.refl w.heap.size w).alloc (Nat.le_refl _) (fuO fuTy 0 0 0 0 (.slice none 0 0))
  have hbW := hidden (fun W (hW : Below (w.alloc (fuO fuTy 0 0 0 0 (.slice none 0 0))).heap.size (w.alloc (fuO fuTy 0 0 0 0 (.slice none 0 0))) W) => hb1.trans (hW.mono hb1.size))
  have hz : (w.alloc (fuO fuTy 0 0 0 0 (.slice none 0 0))).heap[w.heap.size]? = some (fuO fuTy 0 0 0 0 (.slice none 0 0)) := heap_alloc_new w _
  have hzW := hidden (fun W (hW : Below (w.alloc (fuO fuTy 0 0 0 0 (.slice none 0 0))).heap.size (w.alloc (fuO fuTy 0 0 0 0 (.slice none 0 0))) W) => row_later24 hz hW)
  have hC0 := hidden (fun W hW => clamp_any24 A 0 f c W ((hE.sub (ks := [2]) (by simp)).below (hbW.out W hW) (Nat.le_refl _)))
  have hC1 := hidden (fun W hW => clamp_any24 A (covR T L).v f c W ((hE.sub (ks := [2]) (by simp)).below (hbW.out W hW) (Nat.le_refl _)))
  have hCov := hidden (fun W hW => loCover_any A W B g n T (h.below (hbW.out W hW) (Nat.le_refl _)) v L (hr.below (hbW.out W hW) (Nat.le_refl _)) ((hE.sub (ks := [2, 3, 4]) (by simp)).below (hbW.out W hW) (Nat.le_refl _)))
  have hSp := hidden (fun W hW (h2 : (covR T L).c = 0) => fsplit_any24 A (siW T f c L) v L W (hr.below (hbW.out W hW) (Nat.le_refl _)) (cov_am h2).1 (cov_am h2).2 (hE.below (hbW.out W hW) (Nat.le_refl _)))
  have hcv := hidden (fun h => clC_fine.2 (show bdOk (covR T L).v f c from ⟨cov_v T L, (clC_fine.1 h : bdOk 0 f c).2⟩))
  have hwe : clV (covR T L).v f c = siW T f c L := rfl
  rw [hwe] at hC1
  clear hwe
  obtain ⟨a1, c1, rfl⟩ := reads_slice hr
  unfold SplAt24 at hSp
  have hsi := hidden (fun h1 h2 => sl_si (T := T) (f := f) (c := c) (L := L) h1 h2)
  by_cases h1 : clC 0 f c = 0
  · replace hcv := hcv.out h1
    rw [h1, errOf_fine] at hC0
    rw [hcv, errOf_fine] at hC1
    by_cases h2 : (covR T L).c = 0
    · have hSp1 := hidden (fun W hW => hSp.out W hW h2)
      obtain ⟨e1, e2⟩ := hsi.out h1 h2
      rw [h2, errOf_fine] at hCov
      clear hSp hsi hcv
      by_cases h3 : slC (siW T f c L) L = 0
      · have hN := hidden (si_good (T := T) (f := f) (c := c) (L := L) (by rw [e1, h3]))
        rw [if_pos h3] at e2
        rw [e2, e1, h3, errOf_fine, hN.out, hN.out, hN.out, hN.out]
        rw [h3, errOf_fine] at hSp1
        clear hN e1 e2 h1 h2 h3 hr hE h hb1 hz
        generalize slL (siW T f c L) L = M at *
        generalize siW T f c L = t at *
        generalize clV 0 f c = t0 at *
        generalize (covR T L).v = cv at *
        generalize (covR T L).s = sc at *
        go_enter Tryd.func10, Tryd.ntmps10
        go_wp2_with fail
        (with_reducible refine (hC0.out _ (Below.refl _ _)).mono ?_)
        rintro e w2 ⟨rfl, k, rfl⟩
        have hb := hidden (below_drewN (m := k) (Below.refl (w.alloc (fuO fuTy 0 0 0 0 (.slice none 0 0))).heap.size (w.alloc (fuO fuTy 0 0 0 0 (.slice none 0 0)))))
        clear hC0
        go_wp2_with fail
        (with_reducible refine (hCov.out _ hb.out).mono ?_)
        rintro e w3 ⟨rfl, hb3⟩
        replace hb := hidden (hb.out.trans (hb3.mono hb.out.size))
        clear hCov hb3
        go_wp2_with fail
        (with_reducible refine (hC1.out _ hb.out).mono ?_)
        rintro e w4 ⟨rfl, k4, rfl⟩
        replace hb := hidden (below_drewN (m := k4) hb.out)
        clear hC1
        go_wp2_with fail
        (with_reducible refine (hSp1.out _ hb.out).mono ?_)
        rintro e w5 ⟨v5, rfl, hv5, ho5, hb5⟩
        have hsz := hb.out.size
        replace hb := hidden (hb.out.trans (hb5.mono hb.out.size))
        clear hSp1 hb5
        obtain ⟨a5, c5, rfl⟩ := reads_slice hv5
        have hzz := hzW.out _ hb.out
        obtain ⟨⟨z0, z1, z2, z3, z4⟩, hf⟩ := fu_cells hzz
        have hend := hidden (fu_put hzz f c t sc (.slice a5 M.length c5))
        have hbe := hidden (fu_put_below (hbW.out _ hb.out) (Nat.le_refl _) f c t sc (.slice a5 M.length c5))
        have hsz2 : w.heap.size < (w3.drewN k4).heap.size := Nat.lt_of_lt_of_le (by simp) hsz
        have hre := hidden (show Reads .i64 (fuPut w5 w.heap.size f c t sc (.slice a5 M.length c5)) (.slice a5 M.length c5) M from hv5.trd (fu_put_trd w5 w.heap.size f c t sc (.slice a5 M.length c5)) (fun b hb => by have := ho5 b hb; omega))
        have hob := hidden (show ∀ b, (Value.slice a5 M.length c5).ownBlock = some b → w.heap.size ≤ b from fun b hb => by have := ho5 b hb; omega)
        have g0 := hf 0
        have g1 := hf 1
        have g2 := hf 2
        have g3 := hf 3
        have g4 := hf 4
        clear hf hzz hbW hzW hb hv5 ho5 hsz hsz2
        generalize hM : M.length = ml at *
        replace hM := hidden hM
        go_wp2_with fail
        exact fu_end (g := w.heap.size) rfl rfl rfl rfl hend.out ⟨_, rfl, hre.out, hob.out, hbe.out⟩
      · obtain ⟨ea, hea⟩ := errOf_bad24 A h3
        have hbd := si_bad (T := T) (f := f) (c := c) (L := L) (by rw [e1]; exact h3)
        rw [hbd.2, e1, hea, hbd.1, hbd.1, hbd.1, hbd.1]
        rw [hea] at hSp1
        clear hbd e1 e2 h1 h2 h3 hr hE h hb1 hz hea
        generalize slL (siW T f c L) L = M at *
        generalize siW T f c L = t at *
        generalize clV 0 f c = t0 at *
        generalize (covR T L).v = cv at *
        generalize (covR T L).s = sc at *
        go_enter Tryd.func10, Tryd.ntmps10
        go_wp2_with fail
        (with_reducible refine (hC0.out _ (Below.refl _ _)).mono ?_)
        rintro e w2 ⟨rfl, k, rfl⟩
        have hb := hidden (below_drewN (m := k) (Below.refl (w.alloc (fuO fuTy 0 0 0 0 (.slice none 0 0))).heap.size (w.alloc (fuO fuTy 0 0 0 0 (.slice none 0 0)))))
        clear hC0
        go_wp2_with fail
        (with_reducible refine (hCov.out _ hb.out).mono ?_)
        rintro e w3 ⟨rfl, hb3⟩
        replace hb := hidden (hb.out.trans (hb3.mono hb.out.size))
        clear hCov hb3
        go_wp2_with fail
        (with_reducible refine (hC1.out _ hb.out).mono ?_)
        rintro e w4 ⟨rfl, k4, rfl⟩
        replace hb := hidden (below_drewN (m := k4) hb.out)
        clear hC1
        go_wp2_with fail
        (with_reducible refine (hSp1.out _ hb.out).mono ?_)
        rintro e w5 ⟨v5, rfl, hv5, ho5, hb5⟩
        replace hb := hidden (hb.out.trans (hb5.mono hb.out.size))
        clear hSp1 hb5 hv5 ho5
        have hzz := hzW.out _ hb.out
        obtain ⟨⟨z0, z1, z2, z3, z4⟩, hf⟩ := fu_cells hzz
        have hend := hidden (fu_put hzz 0 0 0 0 (.slice none 0 0))
        have hbe := hidden (fu_put_below (hbW.out _ hb.out) (Nat.le_refl _) 0 0 0 0 (.slice none 0 0))
        have g0 := hf 0
        have g1 := hf 1
        have g2 := hf 2
        have g3 := hf 3
        have g4 := hf 4
        clear hf hzz hbW hzW hb
        go_wp2_with fail
        exact fu_end (g := w.heap.size) rfl rfl rfl rfl hend.out ⟨_, rfl, Reads.nil _ _, own_nil23 _, hbe.out⟩
    · obtain ⟨ea, hea⟩ := errOf_bad24 A h2
      have e1 : siC T f c L = (covR T L).c := by
        rcases si_ways T f c L with ⟨q, _⟩ | ⟨_, q, q2⟩ | ⟨_, q, _⟩ | ⟨_, q, _⟩
        · rw [h1] at q; simp at q
        · exact q2
        · exact absurd q h2
        · exact absurd q h2
      have hbd := si_bad (T := T) (f := f) (c := c) (L := L) (by rw [e1]; exact h2)
      rw [hbd.2, e1, hea, hbd.1, hbd.1, hbd.1, hbd.1]
      rw [hea] at hCov
      clear hbd e1 h1 h2 hr hE h hb1 hz hea hSp hsi hcv hC1
      generalize clV 0 f c = t0 at *
      generalize (covR T L).v = cv at *
      generalize (covR T L).s = sc at *
      go_enter Tryd.func10, Tryd.ntmps10
      go_wp2_with fail
      (with_reducible refine (hC0.out _ (Below.refl _ _)).mono ?_)
      rintro e w2 ⟨rfl, k, rfl⟩
      have hb := hidden (below_drewN (m := k) (Below.refl (w.alloc (fuO fuTy 0 0 0 0 (.slice none 0 0))).heap.size (w.alloc (fuO fuTy 0 0 0 0 (.slice none 0 0)))))
      clear hC0
      go_wp2_with fail
      (with_reducible refine (hCov.out _ hb.out).mono ?_)
      rintro e w3 ⟨rfl, hb3⟩
      replace hb := hidden (hb.out.trans (hb3.mono hb.out.size))
      clear hCov hb3
      have hzz := hzW.out _ hb.out
      obtain ⟨⟨z0, z1, z2, z3, z4⟩, hf⟩ := fu_cells hzz
      have hend := hidden (fu_put hzz 0 0 0 0 (.slice none 0 0))
      have hbe := hidden (fu_put_below (hbW.out _ hb.out) (Nat.le_refl _) 0 0 0 0 (.slice none 0 0))
      have g0 := hf 0
      have g1 := hf 1
      have g2 := hf 2
      have g3 := hf 3
      have g4 := hf 4
      clear hf hzz hbW hzW hb
      go_wp2_with fail
      exact fu_end (g := w.heap.size) rfl rfl rfl rfl hend.out ⟨_, rfl, Reads.nil _ _, own_nil23 _, hbe.out⟩
  · obtain ⟨ea, hea⟩ := errOf_bad24 A h1
    have e1 : clC 0 f c = 103 ∧ siC T f c L = 103 := by
      rcases si_ways T f c L with ⟨q, q2⟩ | ⟨q, _⟩ | ⟨q, _⟩ | ⟨q, _⟩
      · exact ⟨q, q2⟩
      · exact absurd q h1
      · exact absurd q h1
      · exact absurd q h1
    have hbd := si_bad (T := T) (f := f) (c := c) (L := L) (by rw [e1.2]; decide)
    rw [e1.1] at hea
    rw [e1.1, hea] at hC0
    rw [hbd.2, e1.2, hea, hbd.1, hbd.1, hbd.1, hbd.1]
    clear hbd e1 h1 hr hE h hb1 hea hSp hsi hcv hC1 hCov
    generalize clV 0 f c = t0 at *
    go_enter Tryd.func10, Tryd.ntmps10
    go_wp2_with fail
    (with_reducible refine (hC0.out _ (Below.refl _ _)).mono ?_)
    rintro e w2 ⟨rfl, k, rfl⟩
    have hb := hidden (below_drewN (m := k) (Below.refl (w.alloc (fuO fuTy 0 0 0 0 (.slice none 0 0))).heap.size (w.alloc (fuO fuTy 0 0 0 0 (.slice none 0 0)))))
    clear hC0 hz
    have hzz := hzW.out _ hb.out
    obtain ⟨⟨z0, z1, z2, z3, z4⟩, hf⟩ := fu_cells hzz
    have hend := hidden (fu_put hzz 0 0 0 0 (.slice none 0 0))
    have hbe := hidden (fu_put_below (hbW.out _ hb.out) (Nat.le_refl _) 0 0 0 0 (.slice none 0 0))
    have g0 := hf 0
    have g1 := hf 1
    have g2 := hf 2
    have g3 := hf 3
    have g4 := hf 4
    clear hf hzz hbW hzW hb
    go_wp2_with fail
    exact fu_end (g := w.heap.size) rfl rfl rfl rfl hend.out ⟨_, rfl, Reads.nil _ _, own_nil23 _, hbe.out⟩
end Go.Proofs.YtlanggdmdpjfbaaDoor
