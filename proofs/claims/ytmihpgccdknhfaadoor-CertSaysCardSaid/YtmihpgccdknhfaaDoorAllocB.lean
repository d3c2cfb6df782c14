import Derived.Test.YtmihpgccdknhfaaDoorAllocA
import Derived.Test.YtmihpgccdknhfaaDoorLots6
import Derived.Test.YtmihpgccdknhfaaDoorSee
import Derived.Test.YtmihpgccdknhfaaDoorLots1

/-
  run.
-/
namespace Go.Proofs.YtmihpgccdknhfaaDoor
open Go Go.RowKit
set_option linter.unusedVariables false

/-- the least number that has a property (0, if none has). -/
theorem least_ex {P : Nat → Prop} : ∀ n, P n → ∃ m, P m ∧ ∀ k, P k → m ≤ k := by
  intro n
  induction n using Nat.strongRecOn with
  | ind n ih =>
    intro h
    by_cases q : ∃ k, k < n ∧ P k
    · obtain ⟨k, hk, hp⟩ := q
      exact ih k hk hp
    · exact ⟨n, h, fun k hk => Nat.le_of_not_lt fun z => q ⟨k, z, hk⟩⟩
open Classical in
noncomputable def mnN (P : Nat → Prop) : Nat := if h : ∃ m, P m ∧ ∀ k, P k → m ≤ k then h.choose else 0
theorem mnN_spec {P : Nat → Prop} {n : Nat} (h : P n) : P (mnN P) ∧ ∀ k, P k → mnN P ≤ k := by
  have hx := least_ex n h
  unfold mnN
  rw [dif_pos hx]
  exact hx.choose_spec
def lenG (m : Nat) (b : List Int) (c : Int) : Prop := b.length = m
/-- the search on its way to R, in at most f steps. -/
def RunAt (w0 : World) (sg bg : Nat) (lv pv : Value) (M : List Lt) (pl : List Nat) (bud : Int) (s0 : Sg) (m : Nat) (R : Se × Bool) (w : World) (f : Nat) : Prop :=
  ∃ x : Se, SI s0 M bud (lenG m) x ∧ SeAt w0 sg bg lv pv bud x w ∧ ruS M pl bud f x = R ∧ potS (trA M) 1 x.st ≤ (f : Int)
def RunRel (w0 : World) (sg bg : Nat) (lv pv : Value) (M : List Lt) (pl : List Nat) (bud : Int) (s0 : Sg) (m : Nat) (R : Se × Bool) (v : Value) (w : World) : Prop := v = .bool false ∧ ∃ f, RunAt w0 sg bg lv pv M pl bud s0 m R w f
theorem bg_so {M : List Lt} (hM : ∀ y ∈ M, bgL y) : ∀ y ∈ M, goL y := fun y hy => bg_go (hM y hy)
set_option maxRecDepth 100000 in
set_option maxHeartbeats 6400000 in
theorem run_any {w0 w : World} {sg bg : Nat} {lv pv : Value} {M : List Lt} {pl : List Nat} {bud : Int} {s0 : Sg} (fc : List Int) (K : Int) (hO : SeOf w0 sg bg lv pv M pl) (hx : SeAt w0 sg bg lv pv bud ⟨[], fc, K, 0⟩ w) (hM : ∀ y ∈ M, bgL y) (hS : SoM M) (hM8 : M.length ≤ 8) (hs0 : BdS 0 s0)
    (hb0 : 0 ≤ bud) (hb1 : bud ≤ 1000000000000) (hpl8 : pl.length = M.length) (hpl : ∀ j, j < pl.length → pl.getD j 0 < fc.length) (hm : 0 < fc.length) (hm2 : fc.length ≤ 8) (hl0 : mbC s0 M K = true → 0 < s0.l ∧ 0 < M.length) (R : Se × Bool) (hR : (if mbC s0 M K = true then ruS M pl bud (potS (trA M) 1 [puB s0 (M.getD 0 ltZ)]).toNat ⟨[puB s0 (M.getD 0 ltZ)], fc, K, 0⟩ else (⟨[], fc, K, 0⟩, true)) = R) :
    Calls Tryd.prog 38 #[.pointer (some ⟨sg, 0, none⟩), sgA s0] w fun e w' => e = .returned (.bool R.2) ∧ SeAt w0 sg bg lv pv bud R.1 w' := by
  have hbs := below_sg w s0
  have hmb := mbc_any hO (hx.below hbs) hM hM8 s0 0 (by omega) hs0 (Nat.zero_le _)
  have hxW := hidden (fun W hb => (hx.below hbs).below (w' := W) hb)
  have hAW := hidden (fun W (hb : Below (w.alloc (sgO s0)).heap.size (w.alloc (sgO s0)) W) => (sgAt_new w s0).below hb)
  have e0 : M.drop ([] : List Br).length = M := rfl
  simp only [e0] at hmb
  obtain ⟨t0, t1, t2, t3, t4, t5, t6, t7, ht8⟩ := eight s0.r hs0.ok.1
  have hO' := hidden hO
  have hM' := hidden hM
  cases hch : mbC s0 M K
  · rw [hch, if_neg (by decide)] at hR
    rw [hch] at hmb
    replace hR := hidden hR
    clear hO hx hM hbs e0
    obtain ⟨ac, al, ar⟩ := s0
    simp only at ht8
    subst ht8
    simp only [sgA, sgO, List.getD_cons_zero, List.getD_cons_succ] at hmb ⊢
    replace hmb := hidden hmb
    go_enter Tryd.func38, Tryd.ntmps38
    go_wp2_with fail
    (with_reducible refine hmb.out.mono ?_)
    rintro e w6 ⟨rfl, hb6⟩
    have hx6 := hidden (hxW.out _ hb6)
    clear hmb hxW hAW hb6
    go_wp2
    go_ret
    exact ⟨by rw [← hR.out]; rfl, by rw [← hR.out]; exact hx6.out⟩
  · rw [hch] at hmb
    obtain ⟨hl1, hl2⟩ := hl0 hch
    have hpu := hidden (fun W (hb : Below (w.alloc (sgO s0)).heap.size (w.alloc (sgO s0)) W) => push_any hO (hxW.out W hb) hM hM8 s0 0 (by omega) hs0 hl1 hl2)
    have hst := si_start (bud := bud) (G := lenG fc.length) (fc := fc) (c0 := K) hS hs0.ok hl1 hl2 hb0 rfl
    rw [hch, if_pos rfl] at hR
    have hR0 := hidden hR
    have hstep := hidden (fun (x : Se) W (hxw : SeAt w0 sg bg lv pv bud x W) (hsi : SI s0 M bud (lenG fc.length) x) (hne : x.st ≠ []) => step_any hO hxw hM hM8 hs0 hsi.top hne ⟨hsi.look.1, Int.le_trans hsi.look.2 hb1⟩ hpl8 (fun j hj => by have := hsi.good; unfold lenG at this; rw [this]; exact hpl j hj) (by have := hsi.good; unfold lenG at this; omega) (by have := hsi.good; unfold lenG at this; omega))
    have hss := hidden (fun (x : Se) (hsi : SI s0 M bud (lenG fc.length) x) (hne : x.st ≠ []) => st_step (pl := pl) (G := lenG fc.length) hS hs0.ok (fun P best cost hg _ _ _ => by show (kpL pl P best.length P.length).length = fc.length; rw [kp_len]; exact hg) hsi hne)
    have hpot := hidden (fun (x : Se) (hsi : SI s0 M bud (lenG fc.length) x) (hne : x.st ≠ []) => show 1 ≤ potS (trA M) 1 x.st from by
      rcases hsi.top with h | ⟨P, b, hst, hP, hlen, hb⟩
      · exact absurd h hne
      · have h1 := pot_nn (V := trA M) (e := 1) (by omega) (fun k => by have := trA_pos hS.1 k; omega) hP
        have h2 := Int.mul_nonneg hb.2.2.2.1 (Int.le_trans (by decide) (trA_pos hS.1 (P.length + 1)))
        rw [hst, pot_snoc]
        omega)
    have hra := hidden (fun W (hxw : SeAt w0 sg bg lv pv bud ⟨[puB s0 (M.getD 0 ltZ)], fc, K, 0⟩ W) => show RunAt w0 sg bg lv pv M pl bud s0 fc.length R W (potS (trA M) 1 [puB s0 (M.getD 0 ltZ)]).toNat from ⟨_, hst, hxw, hR, Int.self_le_toNat _⟩)
    clear hst hR
    have e1 : ([] : List Br) ++ [puB s0 (M.getD 0 ltZ)] = [puB s0 (M.getD 0 ltZ)] := rfl
    simp only [List.length_nil, e1] at hpu
    generalize puB s0 (M.getD 0 ltZ) = b0 at *
    clear hO hx hM hbs e0 e1 hl1 hl2 hl0 hs0
    obtain ⟨ac, al, ar⟩ := s0
    simp only at ht8
    subst ht8
    simp only [sgA, sgO, List.getD_cons_zero, List.getD_cons_succ] at hmb hpu ⊢
    replace hmb := hidden hmb
    go_enter Tryd.func38, Tryd.ntmps38
    go_wp2_with fail
    (with_reducible refine hmb.out.mono ?_)
    rintro e w6 ⟨rfl, hb6⟩
    have hp6 := hidden (hpu.out _ hb6)
    obtain ⟨⟨d0, d1, d2, d3, d4⟩, d5, d6, d7, d8, d9⟩ := (hAW.out _ hb6).ten
    simp only [List.getD_cons_zero, List.getD_cons_succ] at d2 d3 d4 d5 d6 d7 d8 d9
    clear hmb hxW hAW hb6 hpu
    go_wp2_with fail
    (with_reducible refine hp6.out.mono ?_)
    rintro e w7 ⟨rfl, hx7⟩
    have hra7 := hidden (hra.out _ hx7)
    clear hp6 hra hx7 d0 d1 d2 d3 d4 d5 d6 d7 d8 d9
    go_wp2_with fail
    go_loopw [4] (fun v wr => RunRel w0 sg bg lv pv M pl bud ⟨ac, al, [t0, t1, t2, t3, t4, t5, t6, t7]⟩ fc.length R v wr) (fun v wr => mnN (RunAt w0 sg bg lv pv M pl bud ⟨ac, al, [t0, t1, t2, t3, t4, t5, t6, t7]⟩ fc.length R wr))
    case atStart => exact ⟨rfl, _, hra7.out⟩
    case round =>
      clear hra7
      obtain ⟨rfl, f0, hf0⟩ := hrel
      obtain ⟨⟨x, hsi, hxw, hru, hpf⟩, hmin⟩ := mnN_spec hf0
      obtain ⟨f, hfe⟩ : ∃ f, mnN (RunAt w0 sg bg lv pv M pl bud ⟨ac, al, [t0, t1, t2, t3, t4, t5, t6, t7]⟩ fc.length R wr) = f := ⟨_, rfl⟩
      rw [hfe] at hru hpf hmin
      replace hfe := hidden hfe
      have hx0 := hxw
      obtain ⟨⟨sv, hrow, hown⟩, _, _⟩ := hx0
      obtain ⟨sa, sc, rfl⟩ := own_shape20 hown
      obtain ⟨⟨_, _, c2, _⟩, _⟩ := se_cells hrow
      clear hrow hown hf0 hmin
      by_cases hne : x.st = []
      · have hl0 : x.st.length = 0 := by rw [hne]; rfl
        have hRx := hidden (show R = (x, true) from by
          rw [← hru]
          cases f with
          | zero => rfl
          | succ f => unfold ruS; rw [if_pos hne])
        rw [hl0] at c2
        replace hxw := hidden hxw
        clear hsi hru hpf hstep hss hpot
        go_wp2
        go_ret
        exact ⟨by rw [hRx.out]; rfl, by rw [hRx.out]; exact hxw.out⟩
      · have hl0 : 0 < x.st.length := List.length_pos_iff.2 hne
        have hlI : 0 < (x.st.length : Int) := by omega
        have hp1 := hpot.out x hsi hne
        obtain ⟨f1, rfl⟩ : ∃ f1, f = f1 + 1 := ⟨f - 1, by omega⟩
        obtain ⟨s1, s2⟩ := hss.out x hsi hne
        have hcs := hidden (hstep.out x wr hxw hsi hne)
        unfold ruS at hru
        rw [if_neg hne] at hru
        generalize stS M pl bud x = y at *
        obtain ⟨y1, y2⟩ := y
        simp only at hru s1 s2 hcs
        cases y2
        · have hRx := hidden (show R = (y1, false) from by rw [← hru]; rfl)
          clear s1 s2 hru hsi hstep hss hpot hxw hp1 hpf
          go_wp2_with fail
          (with_reducible refine hcs.out.mono ?_)
          rintro e w8 ⟨rfl, hx8⟩
          replace hx8 := hidden hx8
          clear hcs
          go_wp2
          go_ret
          exact ⟨by rw [hRx.out]; rfl, by rw [hRx.out]; exact hx8.out⟩
        · rw [if_pos rfl] at hru
          obtain ⟨g1, _, g3⟩ := s1 rfl
          have hnx := hidden (fun W (hw : SeAt w0 sg bg lv pv bud y1 W) => show RunAt w0 sg bg lv pv M pl bud ⟨ac, al, [t0, t1, t2, t3, t4, t5, t6, t7]⟩ fc.length R W f1 from ⟨y1, g1, hw, hru, by omega⟩)
          clear s1 s2 hru hsi hstep hss hpot hxw hp1 hpf g1 g3
          go_wp2_with fail
          (with_reducible refine hcs.out.mono ?_)
          rintro e w8 ⟨rfl, hx8⟩
          have hn8 := hidden (hnx.out _ hx8)
          clear hcs hx8 hnx
          go_wp2
          go_roundw
          case rel => exact ⟨rfl, _, hn8.out⟩
          case measure =>
            rw [hfe.out]
            have := (mnN_spec hn8.out).2 _ hn8.out
            omega
end Go.Proofs.YtmihpgccdknhfaaDoor

/-
  The places of the lots that add anything, in order: slices.SortStableFunc of at most twenty.
-/
namespace Go.Proofs.YtmihpgccdknhfaaDoor
open Go Go.RowKit
set_option linter.unusedVariables false

/-- a row of numbers of the call's own, with room behind it. -/
structure OnI (base g c n : Nat) (w : World) (l : List Int) : Prop where
  len : l.length = n
  own : w.ownsRow base inTy 1 (.slice (some ⟨g, 0, none⟩) n c) n (l.map (Value.int .i64))
section
variable {base g c n : Nat} {w w' : World} {l : List Int}
theorem OnI.cell (h : OnI base g c n w l) {i : Nat} (hi : i < n) : w.cell? ⟨g, i, none⟩ = some (.int .i64 (l.getD i 0)) := by
  have hl := h.len
  rw [World.ownsRow.cellAt h.own i (by omega), List.getElem?_map, List.getD_eq_getElem?_getD, List.getElem?_eq_getElem (by omega)]
  rfl
theorem OnI.frozen (h : OnI base g c n w l) (i : Nat) : w.frozen? ⟨g, i, none⟩ = false := World.ownsRow.frozenAt h.own i
theorem OnI.below {B : Nat} (h : OnI base g c n w l) (hb : Below B w w') (hB : w.heap.size ≤ B) : OnI base g c n w' l := ⟨h.len, own_below h.own hb hB⟩
theorem OnI.drew (h : OnI base g c n w l) : OnI base g c n w.drew l := ⟨h.len, h.own⟩
theorem OnI.lt (h : OnI base g c n w l) : g < w.heap.size := (World.ownsRow.lt h.own g rfl).2
theorem OnI.low (h : OnI base g c n w l) : base ≤ g := (World.ownsRow.lt h.own g rfl).1
theorem OnI.set (h : OnI base g c n w l) {i : Nat} (hi : i < n) (x : Int) : OnI base g c n (w.setCell ⟨g, i, none⟩ (.int .i64 x)) (l.set i x) := by
  obtain ⟨hl, h1, h2⟩ := h
  refine ⟨by rw [List.length_set]; exact hl, by simp [hl], ?_⟩
  rcases h2 with ⟨h2, h3⟩ | ⟨g', cap, cur, hv, hb, hg, hn, hc, hs, ht⟩
  · cases h2
  · simp only [Value.slice.injEq, Option.some.injEq, Addr.mk.injEq, and_true, true_and] at hv
    obtain ⟨rfl, rfl⟩ := hv
    refine .inr ⟨g, c, cur.setIfInBounds i (.int .i64 x), rfl, hb, heap_setCell_row hg _, hn, hc, by rw [Array.size_setIfInBounds]; exact hs, ?_⟩
    rw [Array.toList_setIfInBounds, List.take_set, ht, List.map_set]
theorem OnI.reads (h : OnI base g c n w l) : Reads .i64 w (.slice (some ⟨g, 0, none⟩) n c) l := by
  have hl := h.len
  obtain ⟨h1, h2⟩ := h.own
  rcases h2 with ⟨h2, h3⟩ | ⟨g', cap, cur, hv, hb, hg, hn, hc, hs, ht⟩
  · cases h2
  · simp only [Value.slice.injEq, Option.some.injEq, Addr.mk.injEq, and_true, true_and] at hv
    obtain ⟨rfl, rfl⟩ := hv
    refine ⟨_, n, c, rfl, hl, hn, hc, (fun q => by cases q), fun ad had i hi => ?_⟩
    obtain rfl := Option.some.inj had
    refine ⟨rfl, ?_⟩
    simp only [Nat.zero_add]
    exact h.cell (by omega)
end
set_option maxRecDepth 100000 in
set_option maxHeartbeats 3200000 in
theorem ahead20_any (la : Option Addr) (lc g i j : Nat) (L : List Lt) (w : World) (hr : Row ltV 4 w (.slice la L.length lc) L) (hbig : ∀ x ∈ L, ltBig x) (hg : w.cell? ⟨g, 0, none⟩ = some (.slice la L.length lc)) (hi : i < L.length) (hj : j < L.length) :
    Calls Tryd.prog 69 #[.int .i64 (i : Int), .int .i64 (j : Int), .pointer (some ⟨g, 0, none⟩)] w fun e w' => e = .returned (.int .i64 (cmpv ((L.getD i ltZ).c * (L.getD j ltZ).v) ((L.getD j ltZ).c * (L.getD i ltZ).v))) ∧ Below w.heap.size w w' := by
  obtain ⟨b, o, rfl, q⟩ := rowLt_at hr i hi
  obtain ⟨b', o', e, r⟩ := rowLt_at hr j hj
  simp only [Option.some.injEq, Addr.mk.injEq, and_true] at e
  obtain ⟨rfl, rfl⟩ := e
  have hbi : ltBig (L.getD i ltZ) := by rw [List.getD_eq_getElem?_getD, List.getElem?_eq_getElem hi]; exact hbig _ (List.getElem_mem hi)
  have hbj : ltBig (L.getD j ltZ) := by rw [List.getD_eq_getElem?_getD, List.getElem?_eq_getElem hj]; exact hbig _ (List.getElem_mem hj)
  unfold ltBig at hbi hbj
  have hC := hidden (fun W => fixCmp_any (L.getD i ltZ).c (L.getD j ltZ).v (L.getD j ltZ).c (L.getD i ltZ).v W (by omega) (by omega) (by omega) (by omega) (by omega) (by omega) (by omega) (by omega))
  have hiI : (i : Int) < (L.length : Int) := by omega
  have hjI : (j : Int) < (L.length : Int) := by omega
  generalize cmpv ((L.getD i ltZ).c * (L.getD j ltZ).v) ((L.getD j ltZ).c * (L.getD i ltZ).v) = r0 at *
  generalize L.getD i ltZ = x at *
  generalize L.getD j ltZ = y at *
  have hs0 := hidden (show LeS w g (.slice (some ⟨b, o, none⟩) L.length lc) b (o + i * 4) (o + j * 4) x y w from ⟨hg, q, r, Below.refl _ _⟩)
  obtain ⟨xu, xv, xc, xg⟩ := x
  obtain ⟨yu, yv, yc, yg⟩ := y
  simp only at hC
  clear q r hg hr hbig hbi hbj
  go_enter Tryd.func69, Tryd.ntmps69
  go_wp2_with fail
  go_region_held3 (fun W => W.cell? ⟨g, 0, none⟩ = some (.slice (some ⟨b, o, none⟩) L.length lc) ∧ (W.cell? ⟨b, o + i * 4, none⟩ = some (.int .i64 xu) ∧ W.cell? ⟨b, o + i * 4 + 1, none⟩ = some (.int .i64 xv) ∧ W.cell? ⟨b, o + i * 4 + 2, none⟩ = some (.int .i64 xc) ∧ W.cell? ⟨b, o + i * 4 + 3, none⟩ = some (.int .i64 xg)) ∧
    (W.cell? ⟨b, o + j * 4, none⟩ = some (.int .i64 yu) ∧ W.cell? ⟨b, o + j * 4 + 1, none⟩ = some (.int .i64 yv) ∧ W.cell? ⟨b, o + j * 4 + 2, none⟩ = some (.int .i64 yc) ∧ W.cell? ⟨b, o + j * 4 + 3, none⟩ = some (.int .i64 yg)) ∧ Below w.heap.size w W)
    ((first | exact leS_drew hs0.out | assumption | exact leS_next (x := ⟨xu, xv, xc, xg⟩) (y := ⟨yu, yv, yc, yg⟩) (by assumption) (by assumption)))
    ((go_at_call 59; (with_reducible refine (hC.out _).mono ?_); rintro r w' ⟨rfl, hb5⟩))
  all_goals
    rename_i hh
    have hend := hidden hh.2.2.2
    clear hh hs0
    go_wp2
    go_ret
    exact ⟨rfl, hend.out⟩
def isQ (L : List Lt) (q : List Nat) (k : Nat) : List Nat := sqTo L q k ++ q.drop k
def jsQ (L : List Lt) (q : List Nat) (k j : Nat) : List Nat := (sqTo L q k).take j ++ (q.getD k 0) :: (sqTo L q k).drop j ++ q.drop (k + 1)
theorem jsQ_start (L : List Lt) {q : List Nat} {k : Nat} (h : k < q.length) : jsQ L q k k = isQ L q k := by
  unfold jsQ isQ
  have e := sqTo_len L q k
  have e1 : (sqTo L q k).take k = sqTo L q k := List.take_of_length_le (by omega)
  have e2 : (sqTo L q k).drop k = [] := List.drop_of_length_le (by omega)
  have e3 : q.drop k = q.getD k 0 :: q.drop (k + 1) := by
    rw [List.drop_eq_getElem_cons h, List.getD_eq_getElem?_getD, List.getElem?_eq_getElem h]; rfl
  rw [e1, e2, e3]
  simp
theorem jsQ_end (L : List Lt) {q : List Nat} {k j : Nat} (h : insAt L (sqTo L q k) (q.getD k 0) k = j) : jsQ L q k j = isQ L q (k + 1) := by
  unfold jsQ isQ
  show _ = ins L (sqTo L q k) (q.getD k 0) ++ _
  unfold ins
  rw [sqTo_len, h]
theorem jsQ_len (L : List Lt) {q : List Nat} {k j : Nat} (h : k < q.length) (hj : j ≤ k) : (jsQ L q k j).length = q.length := by
  have e := sqTo_len L q k
  unfold jsQ
  simp
  omega
theorem jsQ_at (L : List Lt) {q : List Nat} {k j : Nat} (hj : j ≤ k) : (jsQ L q k j).getD j 0 = q.getD k 0 := by
  have e := sqTo_len L q k
  have e2 : ((sqTo L q k).take j).length = j := by rw [List.length_take]; omega
  unfold jsQ
  rw [List.getD_eq_getElem?_getD, List.append_assoc, List.getElem?_append_right (by omega), e2, Nat.sub_self]
  rfl
theorem jsQ_prev (L : List Lt) {q : List Nat} {k p : Nat} (hp : p < k) : (jsQ L q k (p + 1)).getD p 0 = (sqTo L q k).getD p 0 := by
  have e := sqTo_len L q k
  have e2 : ((sqTo L q k).take (p + 1)).length = p + 1 := by rw [List.length_take]; omega
  unfold jsQ
  rw [List.getD_eq_getElem?_getD, List.getD_eq_getElem?_getD, List.append_assoc, List.getElem?_append_left (by omega), List.getElem?_take, if_pos (by omega), List.getD_eq_getElem?_getD]
theorem jsQ_swap (L : List Lt) {q : List Nat} {k p : Nat} (hp : p < k) : ((jsQ L q k (p + 1)).set (p + 1) ((sqTo L q k).getD p 0)).set p (q.getD k 0) = jsQ L q k p := swap_at (sqTo L q k) _ (q.getD k 0) p (by rw [sqTo_len]; exact hp)
theorem isQ_one (L : List Lt) {q : List Nat} (h : 1 ≤ q.length) : q = isQ L q 1 := by
  have e : isQ L q 0 = q := by unfold isQ sqTo; simp
  have e2 := jsQ_start L (q := q) (k := 0) (by omega)
  rw [e] at e2
  exact e2.symm.trans (jsQ_end L rfl)
theorem isQ_end (L : List Lt) (q : List Nat) : isQ L q q.length = sqTo L q q.length := by
  unfold isQ
  rw [List.drop_of_length_le (Nat.le_refl _), List.append_nil]
def IqRel1 (L : List Lt) (q : List Nat) (n base gb c : Nat) (w0 : World) (i : Value) (w : World) : Prop := ∃ k : Nat, 1 ≤ k ∧ k ≤ n ∧ i = .int .i64 (k : Int) ∧ OnI base gb c n w (nats (isQ L q k)) ∧ Below w0.heap.size w0 w
def IqRel2 (L : List Lt) (q : List Nat) (n k base gb c : Nat) (w0 : World) (i : Value) (w : World) : Prop := ∃ j : Nat, j ≤ k ∧ i = .int .i64 (j : Int) ∧ insAt L (sqTo L q k) (q.getD k 0) k = insAt L (sqTo L q k) (q.getD k 0) j ∧ OnI base gb c n w (nats (jsQ L q k j)) ∧ Below w0.heap.size w0 w
abbrev IqS (w0 : World) (base gb c n j p : Nat) (x y : Int) (l : List Int) (W : World) : Prop := W.cell? ⟨gb, j, none⟩ = some (.int .i64 x) ∧ W.cell? ⟨gb, p, none⟩ = some (.int .i64 y) ∧ OnI base gb c n W l ∧ Below w0.heap.size w0 W
theorem iqS_drew {w0 W : World} {base gb c n j p : Nat} {x y : Int} {l : List Int} (h : IqS w0 base gb c n j p x y l W) : IqS w0 base gb c n j p x y l W.drew := ⟨h.1, h.2.1, h.2.2.1.drew, h.2.2.2.drew⟩
theorem iqS_next {w0 W W' : World} {base gb c n j p : Nat} {x y : Int} {l : List Int} (h : IqS w0 base gb c n j p x y l W) (hb : Below W.heap.size W W') : IqS w0 base gb c n j p x y l W' := by
  have hlt := h.2.2.1.lt
  refine ⟨?_, ?_, h.2.2.1.below hb (Nat.le_refl _), h.2.2.2.trans (hb.mono h.2.2.2.size)⟩
  · rw [World.cell?_of_block (w := W) (hb.block gb hlt)]; exact h.1
  · rw [World.cell?_of_block (w := W) (hb.block gb hlt)]; exact h.2.1
set_option maxRecDepth 100000 in
set_option maxHeartbeats 12800000 in
theorem isort20_any (la : Option Addr) (lc g base gb gc : Nat) (L : List Lt) (q : List Nat) (w0 w : World) (hr : Row ltV 4 w0 (.slice la L.length lc) L) (hbig : ∀ x ∈ L, ltBig x) (hq : ∀ i ∈ q, i < L.length ∧ ratedB (L.getD i ltZ) = true) (hg : w0.cell? ⟨g, 0, none⟩ = some (.slice la L.length lc)) (hgb : w0.heap.size ≤ gb)
    (h1 : 1 ≤ q.length) (h8 : q.length ≤ 8) (hN : OnI base gb gc q.length w (nats q)) (hb : Below w0.heap.size w0 w) :
    Calls Tryd.prog 89 #[.slice (some ⟨gb, 0, none⟩) q.length gc, .int .i64 0, .int .i64 (q.length : Int), .func (.func 69) #[] #[.pointer (some ⟨g, 0, none⟩)]] w fun e w' => e = .returned (.tuple #[]) ∧ OnI base gb gc q.length w' (nats (sqTo L q q.length)) ∧ Below w0.heap.size w0 w' := by
  have hC := hidden (fun i j W (hW : Below w0.heap.size w0 W) hi hj => ahead20_any la lc g i j L W (hr.below ltV_len hW (Nat.le_refl _)) hbig (by rw [World.cell?_of_block (w := w0) (hW.block _ (World.block_lt_of_cell? w0 _ hg))]; exact hg) hi hj)
  have hdear := hidden (fun i j (hi : i ∈ q) (hj : j ∈ q) => show decide (cmpv ((L.getD i ltZ).c * (L.getD j ltZ).v) ((L.getD j ltZ).c * (L.getD i ltZ).v) < 0) = dear (L.getD j ltZ) (L.getD i ltZ) from by
    rw [Bool.eq_iff_iff, decide_eq_true_iff, cmpv_neg, dear_iff (hq j hj).2 (hq i hi).2])
  have hmem := hidden (fun k p (hk : k ≤ q.length) (hp : p < k) => mem_sqTo (L := L) hk (nat_at (s := sqTo L q k) (i := p) (by rw [sqTo_len]; exact hp)))
  have hmek := hidden (fun k (hk : k < q.length) => nat_at (s := q) hk)
  have hqn := hidden hq
  have hst : OnI base gb gc q.length w (nats (isQ L q 1)) := by rw [← isQ_one L h1]; exact hN
  replace hst := hidden hst
  replace hb := hidden hb
  have hfin := hidden (isQ_end L q)
  have hjst := hidden (fun k (hk : k < q.length) => jsQ_start L (q := q) hk)
  have hjln := hidden (fun k j (hk : k < q.length) (hj : j ≤ k) => jsQ_len L (q := q) hk hj)
  generalize hn : q.length = n at *
  have hnI : (n : Int) ≤ 8 := by omega
  have hn1 : (1 : Int) ≤ (n : Int) := by omega
  clear hr hbig hq hg hN hn
  go_enter Tryd.func89, Tryd.ntmps89
  go_wp2_with fail
  go_loopw [8] (fun i wr => IqRel1 L q n base gb gc w0 i wr) (fun i _ => n - (RowKit.intOf i).toNat)
  case atStart => exact ⟨1, Nat.le_refl _, h1, rfl, hst.out, hb.out⟩
  case round =>
    clear hst hb
    obtain ⟨k, hk1, hk, rfl, hA, hb⟩ := hrel
    by_cases hlt : k < n
    · have hlI : (k : Int) < (n : Int) := by omega
      rw [← hjst.out k hlt] at hA
      have hmk := hidden (hmek.out k hlt)
      replace hA := hidden hA
      replace hb := hidden hb
      go_wp2_with fail
      go_loopw [9] (fun i wr => IqRel2 L q n k base gb gc w0 i wr) (fun i _ => (RowKit.intOf i).toNat)
      case atStart => exact ⟨k, Nat.le_refl _, rfl, rfl, hA.out, hb.out⟩
      case round =>
        clear hA hb
        obtain ⟨j, hj, rfl, hins, hA, hb⟩ := hrel
        replace hins := hidden hins
        cases j with
        | zero =>
          have hend := hidden hA
          rw [jsQ_end L (show insAt L (sqTo L q k) (q.getD k 0) k = 0 by rw [hins.out]; rfl)] at hend
          have hs0 := hidden (show OnI base gb gc n wr.drew (nats (isQ L q (k + 1))) ∧ Below w0.heap.size w0 wr.drew from ⟨hend.out.drew, hb.drew⟩)
          clear hA hend hins
          replace hb := hidden hb
          go_wp2_with fail
          refine wp_region_held_drew (S := fun W => OnI base gb gc n W (nats (isQ L q (k + 1))) ∧ Below w0.heap.size w0 W) (by kernel_rfl) hs0.out (fun hHeld => ?_)
          refine take_plain 0 18 (.int .i64 0) rfl rfl (by kernel_rfl) (by kernel_rfl) (by kernel_rfl) (fun _ _ _ h => h) (by rfl) ?_ hHeld ?_
          · intro w hSw
            try dsimp only at hSw
            go_simp
          simp only [Act.put, List.setIfInBounds_toArray, List.set_cons_zero, List.set_cons_succ]
          refine take_plain 1 19 (.int .i64 0) rfl rfl (by kernel_rfl) (by kernel_rfl) (by kernel_rfl) (fun _ _ _ h => h) (by rfl) ?_ hHeld ?_
          · intro w hSw
            try dsimp only at hSw
            go_simp
          simp only [Act.put, List.setIfInBounds_toArray, List.set_cons_zero, List.set_cons_succ]
          refine take_plain 2 20 (.bool false) rfl rfl (by kernel_rfl) (by kernel_rfl) (by kernel_rfl) (fun _ _ _ h => h) (by rfl) ?_ hHeld ?_
          · intro w hSw
            try dsimp only at hSw
            go_simp
          simp only [Act.put, List.setIfInBounds_toArray, List.set_cons_zero, List.set_cons_succ]
          refine take_plain 3 21 (.bool false) rfl rfl (by kernel_rfl) (by kernel_rfl) (by kernel_rfl) (fun _ _ _ h => h) (by rfl) ?_ hHeld ?_
          · intro w hSw
            try dsimp only at hSw
            go_simp
          simp only [Act.put, List.setIfInBounds_toArray, List.set_cons_zero, List.set_cons_succ]
          refine take_struck 4 22 rfl rfl (by kernel_rfl) (by kernel_rfl) (by kernel_rfl) (fun _ _ _ h => h) (by rfl) hHeld ?_
          simp only [Act.put, List.setIfInBounds_toArray, List.set_cons_zero, List.set_cons_succ]
          refine take_struck 5 23 rfl rfl (by kernel_rfl) (by kernel_rfl) (by kernel_rfl) (fun _ _ _ h => h) (by rfl) hHeld ?_
          simp only [Act.put, List.setIfInBounds_toArray, List.set_cons_zero, List.set_cons_succ]
          refine take_struck 6 24 rfl rfl (by kernel_rfl) (by kernel_rfl) (by kernel_rfl) (fun _ _ _ h => h) (by rfl) hHeld ?_
          simp only [Act.put, List.setIfInBounds_toArray, List.set_cons_zero, List.set_cons_succ]
          refine take_struck 7 25 rfl rfl (by kernel_rfl) (by kernel_rfl) (by kernel_rfl) (fun _ _ _ h => h) (by rfl) hHeld ?_
          simp only [Act.put, List.setIfInBounds_toArray, List.set_cons_zero, List.set_cons_succ]
          refine take_struck 8 26 rfl rfl (by kernel_rfl) (by kernel_rfl) (by kernel_rfl) (fun _ _ _ h => h) (by rfl) hHeld ?_
          simp only [Act.put, List.setIfInBounds_toArray, List.set_cons_zero, List.set_cons_succ]
          refine take_struck 9 27 rfl rfl (by kernel_rfl) (by kernel_rfl) (by kernel_rfl) (fun _ _ _ h => h) (by rfl) hHeld ?_
          simp only [Act.put, List.setIfInBounds_toArray, List.set_cons_zero, List.set_cons_succ]
          refine take_struck 10 28 rfl rfl (by kernel_rfl) (by kernel_rfl) (by kernel_rfl) (fun _ _ _ h => h) (by rfl) hHeld ?_
          simp only [Act.put, List.setIfInBounds_toArray, List.set_cons_zero, List.set_cons_succ]
          refine take_struck 11 29 rfl rfl (by kernel_rfl) (by kernel_rfl) (by kernel_rfl) (fun _ _ _ h => h) (by rfl) hHeld ?_
          simp only [Act.put, List.setIfInBounds_toArray, List.set_cons_zero, List.set_cons_succ]
          refine take_struck 12 30 rfl rfl (by kernel_rfl) (by kernel_rfl) (by kernel_rfl) (fun _ _ _ h => h) (by rfl) hHeld ?_
          simp only [Act.put, List.setIfInBounds_toArray, List.set_cons_zero, List.set_cons_succ]
          refine take_struck 13 31 rfl rfl (by kernel_rfl) (by kernel_rfl) (by kernel_rfl) (fun _ _ _ h => h) (by rfl) hHeld ?_
          simp only [Act.put, List.setIfInBounds_toArray, List.set_cons_zero, List.set_cons_succ]
          refine take_struck 14 32 rfl rfl (by kernel_rfl) (by kernel_rfl) (by kernel_rfl) (fun _ _ _ h => h) (by rfl) hHeld ?_
          simp only [Act.put, List.setIfInBounds_toArray, List.set_cons_zero, List.set_cons_succ]
          refine take_struck 15 33 rfl rfl (by kernel_rfl) (by kernel_rfl) (by kernel_rfl) (fun _ _ _ h => h) (by rfl) hHeld ?_
          simp only [Act.put, List.setIfInBounds_toArray, List.set_cons_zero, List.set_cons_succ]
          refine take_plain 16 34 (.bool false) rfl rfl (by kernel_rfl) (by kernel_rfl) (by kernel_rfl) (fun _ _ _ h => h) (by rfl) ?_ hHeld ?_
          · intro w hSw
            try dsimp only at hSw
            go_simp
          simp only [Act.put, List.setIfInBounds_toArray, List.set_cons_zero, List.set_cons_succ]

          refine wpAnyH_done (by kernel_rfl) ?_ _
          have hEnd := hidden hHeld
          clear hHeld hs0
          go_wp2
          go_roundw
          case rel => exact ⟨k + 1, by omega, hlt, by go_num, hEnd.out.1, hEnd.out.2⟩
          case measure => simp [RowKit.intOf]; omega
        | succ p =>
          have hpk : p < k := by omega
          have hpn : p < n := by omega
          have cj := hA.cell (i := p + 1) (by omega)
          have cp := hA.cell (i := p) (by omega)
          rw [nats_at, jsQ_at L hj] at cj
          rw [nats_at, jsQ_prev L hpk] at cp
          have fj := hA.frozen (p + 1)
          have fp := hA.frozen p
          have hsm := hmem.out k p (by omega) hpk
          have hd := hidden (hdear.out (q.getD k 0) ((sqTo L q k).getD p 0) hmk.out hsm)
          have hCW := hidden (fun W hW => hC.out (q.getD k 0) ((sqTo L q k).getD p 0) W hW (hqn.out _ hmk.out).1 (hqn.out _ hsm).1)
          have hwp : IntKind.i64.wrap (((p + 1 : Nat) : Int) - 1) = (p : Int) := by rw [IntKind.wrap_i64]; omega
          have hpI : ((p + 1 : Nat) : Int) ≤ 8 ∧ 0 < ((p + 1 : Nat) : Int) := by omega
          have hsw := hidden (jsQ_swap L (q := q) hpk)
          have hmore := hidden (fun h => @insAt_more L (sqTo L q k) (q.getD k 0) p h)
          have hstop := hidden (fun h => @insAt_stop L (sqTo L q k) (q.getD k 0) p h)
          generalize (sqTo L q k).getD p 0 = z at *
          generalize hek : q.getD k 0 = ek at *
          replace hek := hidden hek
          have hs0 := hidden (show IqS w0 base gb gc n (p + 1) p (ek : Int) (z : Int) (nats (jsQ L q k (p + 1))) wr from ⟨cj, cp, hA, hb⟩)
          have hA0 := hidden hA
          clear hsm
          have hpj : ((p : Int) + 1) < (n : Int) := by omega
          have hpj2 : (p : Int) < (n : Int) := by omega
          have hp0 : (0 : Int) ≤ (p : Int) := by omega
          have hwq : IntKind.i64.wrap (p : Int) = (p : Int) := by rw [IntKind.wrap_i64]; omega
          have hp1 : (0 : Int) ≤ (p : Int) + 1 := by omega
          clear hC hdear hA hb cj cp hmem hmek hqn hmk
          generalize cmpv ((L.getD ek ltZ).c * (L.getD z ltZ).v) ((L.getD z ltZ).c * (L.getD ek ltZ).v) = r0 at *
          have hB1 := hidden (fun (h : r0 < 0) => show dear (L.getD z ltZ) (L.getD ek ltZ) = true from by rw [← hd.out]; exact decide_eq_true h)
          have hB2 := hidden (fun (h : ¬ r0 < 0) => show dear (L.getD z ltZ) (L.getD ek ltZ) = false from by rw [← hd.out]; exact decide_eq_false h)
          clear hd
          go_wp2_with fail
          go_region_held3 (fun W => W.cell? ⟨gb, p + 1, none⟩ = some (.int .i64 (ek : Int)) ∧ W.cell? ⟨gb, p, none⟩ = some (.int .i64 (z : Int)) ∧ OnI base gb gc n W (nats (jsQ L q k (p + 1))) ∧ Below w0.heap.size w0 W)
            ((first | exact iqS_drew hs0.out | assumption | exact iqS_next (by assumption) (by assumption)))
            ((go_at_call 69; (with_reducible refine (hCW.out _ (by first | exact hs0.out.2.2.2.drew | exact And.right (And.right (And.right (by assumption))))).mono ?_); rintro r w5 ⟨rfl, hb5⟩))
          rename_i hh
          obtain ⟨cj, cp, hA, hb⟩ := hh
          replace hb := hidden hb
          clear hs0 hCW
          by_cases hr0 : r0 < 0
          · have hm := hidden (hins.out.trans (hmore.out (hB1.out hr0)))
            clear hB1 hB2 hmore hstop hins hA0
            have fj := hA.frozen (p + 1)
            have fp := hA.frozen p
            have hA3 := hidden ((hA.set (i := p + 1) (by omega) (z : Int)).set (i := p) (by omega) (ek : Int))
            rw [nats_set, nats_set, hsw.out] at hA3
            have hb3 := hidden ((hb.out.setCell (p := ⟨gb, p + 1, none⟩) hgb (.int .i64 (z : Int))).setCell (p := ⟨gb, p, none⟩) hgb (.int .i64 (ek : Int)))
            clear hA hsw
            go_wp2_with fail
            go_region
            all_goals
              go_wp2
              go_roundw
              case rel => exact ⟨p, by omega, rfl, by rw [hek.out]; exact hm.out, hA3.out.drew, hb3.out.drew⟩
              case measure => simp [RowKit.intOf]
          · have hm := hidden (hins.out.trans (hstop.out (hB2.out (by omega))))
            rw [jsQ_end L (by rw [hek.out]; exact hm.out)] at hA
            replace hA := hidden hA
            clear hB1 hB2 hmore hstop hins hA0
            go_wp2
            go_roundw
            case rel => exact ⟨k + 1, by omega, hlt, by go_num, hA.out, hb.out⟩
            case measure => simp [RowKit.intOf]; omega
    · obtain rfl : k = n := by omega
      rw [hfin.out] at hA
      replace hA := hidden hA
      replace hb := hidden hb
      go_wp2
      go_end0
      exact ⟨rfl, hA.out, hb.out⟩
end Go.Proofs.YtmihpgccdknhfaaDoor

/-
  cheapestFirst.
-/
namespace Go.Proofs.YtmihpgccdknhfaaDoor
open Go Go.RowKit
set_option linter.unusedVariables false

abbrev OwnN (base : Nat) (w : World) (v : Value) (q : List Nat) : Prop := w.ownsRow base inTy 1 v q.length ((nats q).map (Value.int .i64))
theorem own_shapeN {base : Nat} {w : World} {v : Value} {n : Nat} {xs : List Value} (h : w.ownsRow base inTy 1 v n xs) : ∃ a c, v = .slice a n c := own_slice18 h
set_option maxHeartbeats 1600000 in
theorem isort20_nil (a : Option Addr) (c g : Nat) (w : World) :
    Calls Tryd.prog 89 #[.slice a 0 c, .int .i64 0, .int .i64 ((0 : Nat) : Int), .func (.func 69) #[] #[.pointer (some ⟨g, 0, none⟩)]] w fun e w' => e = .returned (.tuple #[]) ∧ w = w' := by
  go_enter Tryd.func89, Tryd.ntmps89
  go_wp2_with fail
  go_loopw [8] (fun i wr => i = .int .i64 1 ∧ w = wr) (fun _ _ => 0)
  case atStart => exact ⟨rfl, rfl⟩
  case round =>
    obtain ⟨rfl, rfl⟩ := hrel
    go_wp2
    go_end0
    exact ⟨rfl, rfl⟩
def Sort20At (L : List Lt) (q : List Nat) (base : Nat) (v : Value) (w0 : World) (e : Ending) (w' : World) : Prop := e = .returned (.tuple #[]) ∧ w'.ownsRow base inTy 1 v q.length ((nats (sqTo L q q.length)).map (Value.int .i64)) ∧ Below w0.heap.size w0 w'
theorem isort20_all (la : Option Addr) (lc g base : Nat) (L : List Lt) (q : List Nat) (v : Value) (w0 w : World) (hr : Row ltV 4 w0 (.slice la L.length lc) L) (hbig : ∀ x ∈ L, ltBig x) (hq : ∀ i ∈ q, i < L.length ∧ ratedB (L.getD i ltZ) = true) (hg : w0.cell? ⟨g, 0, none⟩ = some (.slice la L.length lc)) (hgb : w0.heap.size ≤ base)
    (h8 : q.length ≤ 8) (hN : OwnN base w v q) (hb : Below w0.heap.size w0 w) :
    Calls Tryd.prog 89 #[v, .int .i64 0, .int .i64 (q.length : Int), .func (.func 69) #[] #[.pointer (some ⟨g, 0, none⟩)]] w (Sort20At L q base v w0) := by
  by_cases h1 : 1 ≤ q.length
  · obtain ⟨gb, gc, rfl, hlow⟩ := own_some hN (by omega)
    refine (isort20_any la lc g base gb gc L q w0 w hr hbig hq hg (Nat.le_trans hgb hlow) h1 h8 ⟨nats_len q, hN⟩ hb).mono ?_
    rintro e w5 ⟨rfl, hA, hb5⟩
    exact ⟨rfl, hA.own, hb5⟩
  · have e : q = [] := List.eq_nil_of_length_eq_zero (by omega)
    subst e
    obtain ⟨a, c, rfl⟩ := own_shapeN hN
    refine (isort20_nil a c g w).mono ?_
    rintro e w5 ⟨rfl, rfl⟩
    exact ⟨rfl, hN, hb⟩
set_option maxRecDepth 100000 in
set_option maxHeartbeats 6400000 in
theorem stable20_any (L : List Lt) (q : List Nat) (base g : Nat) (v : Value) (w0 w : World) (h8 : q.length ≤ 8) (hv : ∃ a c, v = .slice a q.length c)
    (hS : Calls Tryd.prog 89 #[v, .int .i64 0, .int .i64 (q.length : Int), .func (.func 69) #[] #[.pointer (some ⟨g, 0, none⟩)]] w (Sort20At L q base v w0)) :
    Calls Tryd.prog 84 #[v, .int .i64 (q.length : Int), .func (.func 69) #[] #[.pointer (some ⟨g, 0, none⟩)]] w (Sort20At L q base v w0) := by
  obtain ⟨a, c, rfl⟩ := hv
  replace hS := hidden hS
  unfold Sort20At at hS ⊢
  generalize (nats (sqTo L q q.length)).map (Value.int .i64) = xs at *
  generalize q.length = n at *
  have hnI : (n : Int) ≤ 8 := by omega
  have hnL : ¬ (20 : Int) ≤ (n : Int) := by omega
  have hnM : ¬ (20 : Int) < (n : Int) := by omega
  go_enter Tryd.func84, Tryd.ntmps84
  go_wp2_with fail
  go_loopw [7, 8] (fun b c wr => b = .int .i64 0 ∧ c = .int .i64 20 ∧ w = wr) (fun _ _ _ => 0)
  case atStart => exact ⟨rfl, rfl, rfl⟩
  case round =>
    obtain ⟨rfl, rfl, rfl⟩ := hrel
    go_wp2_with fail
    (with_reducible refine hS.out.mono ?_)
    rintro e w5 ⟨rfl, hA, hb5⟩
    replace hA := hidden hA
    replace hb5 := hidden hb5
    clear hS
    go_wp2_with fail
    go_loopw [6] (fun a wr => a = .int .i64 20 ∧ w5 = wr) (fun _ _ => 0)
    case atStart => exact ⟨rfl, rfl⟩
    case round =>
      obtain ⟨rfl, rfl⟩ := hrel
      go_wp2
      go_end0
      exact ⟨rfl, hA.out, hb5.out⟩
set_option maxRecDepth 100000 in
set_option maxHeartbeats 6400000 in
theorem sortStable20_any (L : List Lt) (q : List Nat) (base g : Nat) (v : Value) (w0 w : World) (h8 : q.length ≤ 8) (hv : ∃ a c, v = .slice a q.length c)
    (hS : Calls Tryd.prog 89 #[v, .int .i64 0, .int .i64 (q.length : Int), .func (.func 69) #[] #[.pointer (some ⟨g, 0, none⟩)]] w (Sort20At L q base v w0)) :
    Calls Tryd.prog 68 #[v, .func (.func 69) #[] #[.pointer (some ⟨g, 0, none⟩)]] w (Sort20At L q base v w0) := by
  have hS2 := hidden (stable20_any L q base g v w0 w h8 hv hS)
  obtain ⟨a, c, rfl⟩ := hv
  clear hS
  unfold Sort20At at hS2 ⊢
  generalize (nats (sqTo L q q.length)).map (Value.int .i64) = xs at *
  generalize q.length = n at *
  go_enter Tryd.func68, Tryd.ntmps68
  go_wp2_with fail
  (with_reducible refine hS2.out.mono ?_)
  rintro e w5 ⟨rfl, hA, hb5⟩
  replace hA := hidden hA
  replace hb5 := hidden hb5
  clear hS2
  go_wp2
  go_end0
  exact ⟨rfl, hA.out, hb5.out⟩
def CqRel (L : List Lt) (base : Nat) (w1 : World) (v i : Value) (w : World) : Prop := ∃ k : Nat, k ≤ L.length ∧ i = .int .i64 (k : Int) ∧ OwnN base w v (plF L k) ∧ Below w1.heap.size w1 w
/-- the places in order, in a row of the call's own. -/
def Cq20At (L : List Lt) (w : World) (e : Ending) (w' : World) : Prop := ∃ v, e = .returned v ∧ OwnN w.heap.size w' v (plL L) ∧ Below w.heap.size w w'
theorem nats_snoc (l : List Nat) (k : Nat) : (nats (l ++ [k])).map (Value.int .i64) = (nats l).map (Value.int .i64) ++ [.int .i64 (k : Int)] := by simp [nats]
set_option maxRecDepth 100000 in
set_option maxHeartbeats 6400000 in
theorem cheapest20_any (lv : Value) (L : List Lt) (w : World) (hr : Row ltV 4 w lv L) (hbig : ∀ x ∈ L, ltBig x) (h8 : L.length ≤ 8) :
    Calls Tryd.prog 54 #[lv] w (Cq20At L w) := by
  have hmf : ∀ (fn : Fn) (first cap : Array Value) (w : World), (Instr.makeFunc fn first cap).run Tryd.prog w = .ok (.func fn first cap) w := fun _ _ _ _ => rfl
  obtain ⟨la, lc, rfl⟩ := row_slice hr
  have hb0 : Below w.heap.size w (w.alloc (.cells #[.slice la L.length lc] lsTy)) := (Below.refl _ w).alloc (Nat.le_refl _) _
  have hg : (w.alloc (.cells #[.slice la L.length lc] lsTy)).cell? ⟨w.heap.size, 0, none⟩ = some (.slice la L.length lc) := by rw [cell_of_row _ _ _ _ _ _ (heap_alloc_new w (.cells #[.slice la L.length lc] lsTy))]; rfl
  have hr1 := hr.below ltV_len hb0 (Nat.le_refl _)
  have hx := hidden (fun k hk W (h2 : Below (w.alloc (.cells #[.slice la L.length lc] lsTy)).heap.size (w.alloc (.cells #[.slice la L.length lc] lsTy)) W) => rowLt_at (hr1.below ltV_len h2 (Nat.le_refl _)) k hk)
  have hpf := plF_len L L.length
  have hS := hidden (fun v W hN hb => sortStable20_any L (plF L L.length) (w.alloc (.cells #[.slice la L.length lc] lsTy)).heap.size w.heap.size v (w.alloc (.cells #[.slice la L.length lc] lsTy)) W (by omega) (own_shapeN hN) (isort20_all la lc w.heap.size (w.alloc (.cells #[.slice la L.length lc] lsTy)).heap.size L (plF L L.length) v (w.alloc (.cells #[.slice la L.length lc] lsTy)) W hr1 hbig (fun i hi => mem_plF.1 hi) hg (Nat.le_refl _) (by omega) hN hb))
  unfold Sort20At at hS
  unfold Cq20At
  have hpl : sqTo L (plF L L.length) (plF L L.length).length = plL L := rfl
  rw [hpl] at hS
  have hln := plL_len L
  have hlnI : (L.length : Int) ≤ 8 := by omega
  have hsz1 : (w.alloc (.cells #[.slice la L.length lc] lsTy)).heap.size = w.heap.size + 1 := by simp
  rw [hsz1] at hS
  replace hsz1 := hidden hsz1
  have hst : OwnN (w.heap.size + 1) (w.alloc (.cells #[.slice la L.length lc] lsTy)) (.slice none 0 0) (plF L 0) := World.ownsRow_nil _ _ _ _
  replace hst := hidden hst
  replace hb0 := hidden hb0
  have hfl := hidden (fun k (hk : k ≤ L.length) => show (plF L k).length ≤ 8 from by have := plF_len L k; omega)
  replace hpl := hidden hpl
  replace hln := hidden hln
  clear hr hbig hr1 hpf
  go_enter Tryd.func54, Tryd.ntmps54
  go_wp2_with fail
  go_loopw [3, 8] (fun v i wr => CqRel L (w.heap.size + 1) (w.alloc (.cells #[.slice la L.length lc] lsTy)) v i wr) (fun _ i _ => L.length - (RowKit.intOf i).toNat)
  case atStart => exact ⟨0, Nat.zero_le _, rfl, hst.out, Below.refl _ _⟩
  case round =>
    clear hst
    obtain ⟨k, hk, rfl, hA, hb3⟩ := hrel
    by_cases hlt : k < L.length
    · obtain ⟨b, o, rfl, q0, q1, q2, q3⟩ := hx.out k hlt _ hb3
      have hkI : (k : Int) < (L.length : Int) := by omega
      have hf8 := hfl.out k hk
      have hbl := hidden (hb3.trans ((below_lt wr (L.getD k ltZ)).mono hb3.size))
      have hAl := hidden (own_below hA (below_lt wr (L.getD k ltZ)) (Nat.le_refl _))
      have hsz := hidden hb3.size
      by_cases hrt : ratedB (L.getD k ltZ) = true
      · have hfe := hidden (show plF L (k + 1) = plF L k ++ [k] from if_pos hrt)
        have hrt' := ratedB_iff.1 hrt
        have hd0 : decide (0 < (L.getD k ltZ).u) = true := decide_eq_true hrt'.2
        have hd1 : decide (0 < (L.getD k ltZ).v) = true := decide_eq_true hrt'.1
        clear hA hb3 hx hrt hrt' hS
        generalize L.getD k ltZ = x at *
        obtain ⟨u, v', c, gg⟩ := x
        simp only at q0 q1 q2 q3 hd0 hd1
        have hB := hidden (show w.heap.size + 1 ≤ _ from by rw [← hsz1.out]; exact hbl.out.size)
        go_wp2_with (at_builtin; refine wpList_app1' rfl _ _ 26 rfl 3 Tryd.underlying26 infoI64 rfl (by decide) _ _ _ _ rfl hAl.out _ _ rfl ?_ rfl ?_ hB.out ?_)
        case _ => simp
        case _ => omega
        intro v2 w2 hown2 hb2
        replace hown2 := hidden hown2
        replace hb2 := hidden hb2
        clear hAl
        go_wp2
        go_roundw
        case rel =>
          refine ⟨k + 1, hlt, by go_num, ?_, hbl.out.trans (by rw [hsz1.out]; exact hb2.out)⟩
          unfold OwnN
          rw [hfe.out, nats_snoc, List.length_append]
          exact hown2.out
        case measure => simp [RowKit.intOf]; omega
      · have hfe := hidden (show plF L (k + 1) = plF L k from if_neg hrt)
        have hrt' : ¬ (0 < (L.getD k ltZ).v ∧ 0 < (L.getD k ltZ).u) := fun z => hrt (ratedB_iff.2 z)
        clear hA hb3 hx hrt hS
        generalize L.getD k ltZ = x at *
        obtain ⟨u, v', c, gg⟩ := x
        simp only at q0 q1 q2 q3 hrt'
        by_cases hu : 0 < u
        · have hd0 : decide (0 < u) = true := decide_eq_true hu
          have hd1 : decide (0 < v') = false := decide_eq_false (fun z => hrt' ⟨z, hu⟩)
          clear hrt'
          go_wp2
          go_roundw
          case rel => exact ⟨k + 1, hlt, by go_num, by rw [hfe.out]; exact hAl.out, hbl.out⟩
          case measure => simp [RowKit.intOf]; omega
        · have hd0 : decide (0 < u) = false := decide_eq_false hu
          clear hrt'
          go_wp2
          go_roundw
          case rel => exact ⟨k + 1, hlt, by go_num, by rw [hfe.out]; exact hAl.out, hbl.out⟩
          case measure => simp [RowKit.intOf]; omega
    · obtain rfl : k = L.length := by omega
      obtain ⟨pa, pc, rfl⟩ := own_shapeN hA
      have hS2 := hidden (hS.out _ _ hA (by rw [← hsz1.out]; exact hb3))
      clear hS hA hb3
      go_wp2_with fail
      (with_reducible refine hS2.out.mono ?_)
      rintro e w5 ⟨rfl, hA5, hb5⟩
      replace hA5 := hidden hA5
      replace hb5 := hidden (hb0.out.trans (hb5.mono (Nat.le_succ _)))
      clear hS2
      go_wp2
      go_ret
      exact ⟨_, rfl, by unfold OwnN; rw [hln.out]; exact own_from hA5.out (by simp), hb5.out⟩
end Go.Proofs.YtmihpgccdknhfaaDoor

/-
  firstChoice, nothingChosen.
-/
namespace Go.Proofs.YtmihpgccdknhfaaDoor
open Go Go.RowKit
set_option linter.unusedVariables false

def FcAt (L : List Lt) (C : List Int) (n : Int) (w : World) (e : Ending) (w' : World) : Prop := ∃ g, e = .returned (.slice (some ⟨g, 0, none⟩) L.length L.length) ∧ w.heap.size ≤ g ∧ NumAt inTy w' g (fcL L C n (grB L C n)) ∧ Below w.heap.size w w'
def FfRel (F : List Int) (gb : Nat) (w1 : World) (i : Value) (w : World) : Prop := ∃ k : Nat, k ≤ F.length ∧ i = .int .i64 (k : Int) ∧ NumAt inTy w gb (fillL F k) ∧ Below w1.heap.size w1 w
set_option maxRecDepth 100000 in
set_option maxHeartbeats 6400000 in
theorem first20_any (A : Nat → Addr) (lv cv : Value) (L : List Lt) (C : List Int) (n : Int) (w : World) (h : PbR w lv cv L C) (hE : ErrsOn [2, 4] w A) (hl : L.length ≤ 8) :
    Calls Tryd.prog 55 #[pbA lv cv n] w (FcAt L C n w) := by
  have hb0 := below_pb w pbTy lv cv n
  have hpb := pbAt_new w pbTy lv cv n
  have hp := hidden (fun W (hW : Below (w.alloc (pbO pbTy lv cv n)).heap.size (w.alloc (pbO pbTy lv cv n)) W) => (hpb.below hW (Nat.le_refl _)).cells)
  have hG := ltGreedy_own A lv cv L C n _ (h.below hb0 (Nat.le_refl _)) (hE.below hb0 (Nat.le_refl _))
  have hb := hidden hb0
  unfold GreedyOwn at hG
  unfold FcAt fcL
  have hgl : grB L C n = true → grL L C n = (gR L C n).1 := fun q => grL_yes q
  replace hG := hidden hG
  obtain ⟨la, lc, rfl⟩ := row_slice h.lots
  have hx := hidden (fun k hk W (h2 : Below w.heap.size w W) => rowLt_at (h.lots.below ltV_len h2 (Nat.le_refl _)) k hk)
  have hlen := h.len
  have hmk := mk_ints18 L.length (by omega)
  have hfl := full_len L
  have hfu := hidden (fun k => full_at L k)
  have hfs := hidden (fun k h => fillL_set (full L) k h)
  have hfe := hidden (fillL_end (full L))
  have hfn := hidden (fun k h => fillL_len (full L) (k := k) h)
  have hf0 := hidden (show fillL (full L) 0 = List.replicate L.length 0 by unfold fillL; simp [hfl])
  generalize full L = F at *
  generalize grL L C n = T at *
  generalize (gR L C n).1 = T1 at *
  clear h hE hb0 hpb
  cases hB : grB L C n
  · rw [hB] at hG
    rw [if_neg (by decide)]
    clear hgl hB
    go_enter Tryd.func55, Tryd.ntmps55
    obtain ⟨c0, c1, c2⟩ := hp.out _ (Below.refl _ _)
    go_wp2_with fail
    (with_reducible refine hG.out.mono ?_)
    rintro e w5 ⟨v, rfl, _, hno, hb5⟩
    obtain ⟨va, vc, rfl⟩ := reads_slice (hno trivial)
    obtain ⟨d0, d1, d2⟩ := hp.out _ hb5
    have hb6 := hidden (hb.out.trans (hb5.mono hb.out.size))
    have hst : NumAt inTy (w5.alloc (.cells (Array.replicate L.length (.int .i64 0)) inTy)) w5.heap.size (fillL F 0) := by rw [hf0.out]; exact numAt_new inTy w5 L.length
    have hbA := (Below.refl w5.heap.size w5).alloc (Nat.le_refl _) (.cells (Array.replicate L.length (.int .i64 0)) inTy)
    have d0a : (w5.alloc (.cells (Array.replicate L.length (.int .i64 0)) inTy)).cell? ⟨w.heap.size, 0, none⟩ = some (.slice la L.length lc) := by
      rw [World.cell?_of_block (w := w5) (hbA.block _ (World.block_lt_of_cell? w5 _ d0))]; exact d0
    replace hst := hidden hst
    have hbst := hidden (hb6.out.trans (hbA.mono hb6.out.size))
    have hhi := hidden hb6.out.size
    clear hG hno hb5 hp c0 c1 c2 d1 d2
    go_wp2_with fail
    go_loopw [22] (fun i wr => FfRel F w5.heap.size w i wr) (fun i _ => F.length - (RowKit.intOf i).toNat)
    case atStart => exact ⟨0, Nat.zero_le _, rfl, hst.out, hbst.out⟩
    case round =>
      clear hst hbst d0 d0a hbA
      obtain ⟨k, hk, rfl, hA, hb3⟩ := hrel
      by_cases hlt : k < F.length
      · obtain ⟨b, o, rfl, q0, q1, q2, q3⟩ := hx.out k (by omega) _ hb3
        have hlI : (k : Int) < (L.length : Int) := by omega
        have hbw := below_lt wr (L.getD k ltZ)
        have hbl := hidden (hb3.trans (hbw.mono hb3.size))
        have hA2 := hA.below hbw (Nat.le_refl _)
        have cg := hA2.cell (i := k) (by rw [hfn.out k hk]; exact hlt)
        have fg := hA2.frozen k
        have cg0 := hA.cell (i := k) (by rw [hfn.out k hk]; exact hlt)
        have fg0 := hA.frozen k
        have hA3 := hidden (hA2.set k (L.getD k ltZ).u)
        rw [← hfu.out k, hfs.out k hlt] at hA3
        have hfk := hidden (hfu.out k)
        generalize (fillL F k).getD k 0 = z at *
        clear hA hA2 hx hbw
        rw [hfk.out] at hA3
        generalize L.getD k ltZ = y at *
        obtain ⟨u, v, c, gg⟩ := y
        simp only at q0 q1 q2 q3
        replace hb3 := hidden hb3
        have hbn := hidden (hbl.out.setCell (p := ⟨w5.heap.size, k, none⟩) hhi.out (.int .i64 u))
        go_wp2
        go_roundw
        case rel => exact ⟨k + 1, hlt, by go_num, hA3.out, hbn.out⟩
        case measure => simp [RowKit.intOf]; omega
      · obtain rfl : k = F.length := by omega
        rw [hfe.out] at hA
        have hend := hidden hA
        replace hb3 := hidden hb3
        clear hA
        go_wp2
        go_ret
        exact ⟨_, rfl, hhi.out, hend.out, hb3.out⟩
  · rw [hB] at hG
    rw [if_pos rfl, ← hgl hB]
    clear hgl hB hx hfs hfu hfe hfn hf0 hmk
    go_enter Tryd.func55, Tryd.ntmps55
    obtain ⟨c0, c1, c2⟩ := hp.out _ (Below.refl _ _)
    go_wp2_with fail
    (with_reducible refine hG.out.mono ?_)
    rintro e w5 ⟨v, rfl, hyes, _, hb5⟩
    obtain ⟨g, rfl, hg, hN⟩ := hyes trivial
    have hb6 := hidden (hb.out.trans (hb5.mono hb.out.size))
    have hg6 := hidden (Nat.le_trans hb.out.size hg)
    replace hN := hidden hN
    clear hG hyes hb5 hg hp c0 c1 c2
    go_wp2
    go_ret
    exact ⟨_, rfl, hg6.out, hN.out, hb6.out⟩
def NoRel (C : List Int) (n : Int) (b p : Nat) (lv cv : Value) (w0 : World) (i : Value) (w : World) : Prop := ∃ k : Nat, k ≤ C.length ∧ i = .int .i64 (k : Int) ∧ SgAt w b ⟨0, n, rmTo C n k⟩ ∧ PbAt w p pbTy lv cv n ∧ SgAt w (p + 1) sgZ ∧ Below w0.heap.size w0 w
theorem rmTo_zero (C : List Int) (n : Int) : rmTo C n 0 = [0, 0, 0, 0, 0, 0, 0, 0] := by
  unfold rmTo
  rfl
theorem sgAt_other {w : World} {b g : Nat} {s : Sg} (h : SgAt w b s) (hne : b ≠ g) (o : Nat) (v : Value) : SgAt (w.setCell ⟨g, o, none⟩ v) b s := by
  have hl := NumAt.lt h
  unfold SgAt NumAt at h ⊢
  rw [(Trd.setCell (S := (· = g)) w ⟨g, o, none⟩ v rfl).block b hl hne]
  exact h
set_option maxRecDepth 100000 in
set_option maxHeartbeats 6400000 in
theorem nothing20_any (lv cv : Value) (L : List Lt) (C : List Int) (n : Int) (w : World) (h : PbR w lv cv L C) (hC : C.length ≤ 8) :
    Calls Tryd.prog 39 #[pbA lv cv n] w fun e w' => e = .returned (sgA (noS C n)) ∧ Below w.heap.size w w' := by
  have hb0 := below_pb w pbTy lv cv n
  have hpb := pbAt_new w pbTy lv cv n
  have hb1 := hb0.trans ((below_sg (w.alloc (pbO pbTy lv cv n)) sgZ).mono hb0.size)
  have hp1 := hpb.below (below_sg (w.alloc (pbO pbTy lv cv n)) sgZ) (Nat.le_refl _)
  have hz1 := sgAt_new (w.alloc (pbO pbTy lv cv n)) sgZ
  have hb2 := hb1.trans ((below_sg ((w.alloc (pbO pbTy lv cv n)).alloc (sgO sgZ)) ⟨0, n, [0, 0, 0, 0, 0, 0, 0, 0]⟩).mono hb1.size)
  have hp2 := hp1.below (below_sg ((w.alloc (pbO pbTy lv cv n)).alloc (sgO sgZ)) ⟨0, n, [0, 0, 0, 0, 0, 0, 0, 0]⟩) (Nat.le_refl _)
  have hz2 := hz1.below (below_sg ((w.alloc (pbO pbTy lv cv n)).alloc (sgO sgZ)) ⟨0, n, [0, 0, 0, 0, 0, 0, 0, 0]⟩)
  have hs2 := sgAt_new ((w.alloc (pbO pbTy lv cv n)).alloc (sgO sgZ)) ⟨0, n, [0, 0, 0, 0, 0, 0, 0, 0]⟩
  simp only [World.size_alloc] at hz2 hs2
  obtain ⟨ca, cc, rfl⟩ := reads_slice h.caps
  have hc := hidden (fun k hk W (h2 : Below w.heap.size w W) => (h.caps.below h2 (Nat.le_refl _)).cell k hk)
  have hst := hidden (show NoRel C n (w.heap.size + 1 + 1) w.heap.size lv (.slice ca C.length cc) w (.int .i64 ((0 : Nat) : Int)) (((w.alloc (pbO pbTy lv (.slice ca C.length cc) n)).alloc (sgO sgZ)).alloc (sgO ⟨0, n, [0, 0, 0, 0, 0, 0, 0, 0]⟩)) from ⟨0, Nat.zero_le _, rfl, by rw [rmTo_zero]; exact hs2, hp2, hz2, hb2⟩)
  obtain ⟨e0, e1, e2⟩ := hp1.cells
  obtain ⟨c0, c1, c2⟩ := hp2.cells
  obtain ⟨k0, k1, k2⟩ := hpb.cells
  have hset := hidden (fun k (hk : k < 8) => rmTo_set C n hk)
  have hrl := hidden (fun k => rmTo_len C n k)
  clear h hb0 hpb hb1 hp1 hz1 hb2 hp2 hz2 hs2
  unfold noS
  go_enter Tryd.func39, Tryd.ntmps39
  go_wp2_with fail
  go_loopw [12] (fun i wr => NoRel C n (w.heap.size + 1 + 1) w.heap.size lv (.slice ca C.length cc) w i wr) (fun i _ => C.length - (RowKit.intOf i).toNat)
  case atStart => exact hst.out
  case round =>
    clear hst c0 c1 c2 e0 e1 e2 k0 k1 k2
    obtain ⟨k, hk, rfl, hA, hP, hZ, hb⟩ := hrel
    by_cases hlt : k < C.length
    · obtain ⟨b, o, rfl, q0⟩ := hc.out k hlt _ hb
      have hlI : (k : Int) < (C.length : Int) := by omega
      have hk8 : (k : Int) < 8 := by omega
      obtain ⟨p0, p1, p2⟩ := hP.cells
      have cg := hA.room (g := k) (by omega)
      have fg := NumAt.frozen hA (2 + k)
      have hnx := hidden (fun y => (sgAt_put hA (hrl.out k)).2.2 k (by omega) y)
      have hst := hidden (hset.out k (by omega))
      have hP2 := hidden (fun y => hP.put (b := w.heap.size + 1 + 1) (by omega) (2 + k) y)
      have hZ2 := hidden (fun y => sgAt_other (g := w.heap.size + 1 + 1) hZ (by omega) (2 + k) y)
      have hb2 := hidden (fun y => hb.setCell (p := ⟨w.heap.size + 1 + 1, 2 + k, none⟩) (by show w.heap.size ≤ w.heap.size + 1 + 1; omega) y)
      simp only at cg
      clear hA hP hZ hb hc
      by_cases hz : C.getD k 0 = 0
      · rw [hz] at q0
        rw [if_pos hz] at hst
        generalize (rmTo C n k).getD k 0 = old at *
        go_wp2
        all_goals
          go_roundw
          case rel => exact ⟨k + 1, hlt, by go_num, by have h := hnx.out n; rw [hst.out] at h; exact h, hP2.out _, hZ2.out _, hb2.out _⟩
          case measure => simp [RowKit.intOf]; omega
      · rw [if_neg hz] at hst
        generalize (rmTo C n k).getD k 0 = old at *
        have hzb : (C.getD k 0 == 0) = false := by rw [beq_eq_false_iff_ne]; exact hz
        generalize C.getD k 0 = c at *
        go_wp2
        all_goals
          go_roundw
          case rel => exact ⟨k + 1, hlt, by go_num, by have h := hnx.out c; rw [hst.out] at h; exact h, hP2.out _, hZ2.out _, hb2.out _⟩
          case measure => simp [RowKit.intOf]; omega
    · obtain rfl : k = C.length := by omega
      obtain ⟨r0, r1, r2, r3, r4, r5, r6, r7, hr8⟩ := eight (rmTo C n C.length) (hrl.out _)
      rw [hr8] at hA
      replace hr8 := hidden hr8
      obtain ⟨⟨d0, d1, d2, d3, d4⟩, d5, d6, d7, d8, d9⟩ := hA.ten
      obtain ⟨⟨z0, z1, z2, z3, z4⟩, z5, z6, z7, z8, z9⟩ := hZ.ten
      simp only [List.getD_cons_zero, List.getD_cons_succ] at d0 d1 d2 d3 d4 d5 d6 d7 d8 d9
      have f0 := NumAt.frozen hZ 0
      have f1 := NumAt.frozen hZ 1
      have f2 := NumAt.frozen hZ 2
      have f3 := NumAt.frozen hZ 3
      have f4 := NumAt.frozen hZ 4
      have f5 := NumAt.frozen hZ 5
      have f6 := NumAt.frozen hZ 6
      have f7 := NumAt.frozen hZ 7
      have f8 := NumAt.frozen hZ 8
      have f9 := NumAt.frozen hZ 9
      have hend := hidden (sg_put hZ 0 n r0 r1 r2 r3 r4 r5 r6 r7)
      have hbe := hidden (below_sgput hb (show w.heap.size ≤ w.heap.size + 1 from Nat.le_succ _) 0 n r0 r1 r2 r3 r4 r5 r6 r7)
      clear hA hZ hP hb hc
      go_wp2_with fail
      exact sg_end (g := w.heap.size + 1) rfl rfl rfl hend.out ⟨by rw [hr8.out], hbe.out⟩
end Go.Proofs.YtmihpgccdknhfaaDoor

/-
  newSearch.
-/
namespace Go.Proofs.YtmihpgccdknhfaaDoor
open Go Go.RowKit
set_option linter.unusedVariables false

/-- a new search: what it stands on, in the world in which it is whole. -/
def NsAt (L : List Lt) (C : List Int) (n bud : Int) (w : World) (e : Ending) (w' : World) : Prop :=
  ∃ sg bg lv pv, e = .returned (.pointer (some ⟨sg, 0, none⟩)) ∧ SeOf w' sg bg lv pv (moM L (plL L)) (plL L) ∧ SeAt w' sg bg lv pv bud ⟨[], fcL L C n (grB L C n), co L (fcL L C n (grB L C n)), 0⟩ w' ∧ w.heap.size ≤ sg ∧ w.heap.size ≤ bg ∧ Below w.heap.size w w'
/-- the struct, its places and best choice; the list still to come. -/
structure NwAt (L : List Lt) (w : World) (sg bg : Nat) (lv pv : Value) (bud : Int) (T : List Int) (co : Int) (W : World) : Prop where
  row : W.heap[sg]? = some (seO lv pv (.slice none 0 0) (.slice (some ⟨bg, 0, none⟩) L.length L.length) co 0 bud)
  places : OwnN w.heap.size W pv (plL L)
  best : NumAt inTy W bg T
  pb : ∀ b, pv.ownBlock = some b → b < bg
  bs : bg < sg
  lo : w.heap.size ≤ bg
theorem NwAt.below {L : List Lt} {w W W' : World} {sg bg : Nat} {lv pv : Value} {bud : Int} {T : List Int} {co : Int} (h : NwAt L w sg bg lv pv bud T co W) (hb : Below W.heap.size W W') : NwAt L w sg bg lv pv bud T co W' :=
  ⟨(hb.block _ (Array.getElem?_eq_some_iff.1 h.row).1).trans h.row, own_below h.places hb (Nat.le_refl _), h.best.below hb (Nat.le_refl _), h.pb, h.bs, h.lo⟩
theorem own_keep {w w' : World} {base : Nat} {e : TypeId} {size : Nat} {v : Value} {n : Nat} {xs : List Value} (h : w.ownsRow base e size v n xs) (hb : ∀ b, v.ownBlock = some b → w'.heap[b]? = w.heap[b]?) : w'.ownsRow base e size v n xs := by
  obtain ⟨h1, h2⟩ := h
  refine ⟨h1, ?_⟩
  rcases h2 with h2 | ⟨g, cap, cur, rfl, hg, hh, r⟩
  · exact .inl h2
  · exact .inr ⟨g, cap, cur, rfl, hg, (hb g rfl).trans hh, r⟩
/-- a field of the struct is written. -/
theorem NwAt.keep {L : List Lt} {w W W' : World} {sg bg : Nat} {lv lv' pv : Value} {bud : Int} {T : List Int} {co co' : Int} (h : NwAt L w sg bg lv pv bud T co W) (hr : W'.heap[sg]? = some (seO lv' pv (.slice none 0 0) (.slice (some ⟨bg, 0, none⟩) L.length L.length) co' 0 bud)) (hb : ∀ k, k < sg → W'.heap[k]? = W.heap[k]?) : NwAt L w sg bg lv' pv bud T co' W' := by
  refine ⟨hr, own_keep h.places fun b q => hb b (by have := h.pb b q; have := h.bs; omega), ?_, h.pb, h.bs, h.lo⟩
  have hB := h.best
  unfold NumAt at hB ⊢
  rw [hb bg h.bs]
  exact hB
theorem nw_app {L : List Lt} {w W w6 : World} {sg bg B : Nat} {lv pv : Value} {bud : Int} {T : List Int} {co : Int} (h : NwAt L w sg bg lv pv bud T co W) (hsg : sg < B) (hv : ∀ k, lv.ownBlock = some k → B ≤ k) (o : Obj) (ht : Trd (fun k => lv.ownBlock = some k) (W.drew.alloc o) w6) {st : List Lt} {v6 : Value} (ho : OwnR ltV 4 ltTy B w6 v6 st) :
    w6.cell? ⟨sg, 0, none⟩ = some lv ∧ w6.frozen? ⟨sg, 0, none⟩ = false ∧ NwAt L w sg bg v6 pv bud T co (w6.setCell ⟨sg, 0, none⟩ v6) ∧ OwnR ltV 4 ltTy B (w6.setCell ⟨sg, 0, none⟩ v6) v6 st ∧ (∀ w1 : World, w1.heap.size ≤ sg → Below w1.heap.size w1 W → Below w1.heap.size w1 (w6.setCell ⟨sg, 0, none⟩ v6)) := by
  have hb : Below W.heap.size W (W.drew.alloc o) := ((Below.refl _ W).drew).alloc (Nat.le_refl _) o
  have hlt := (Array.getElem?_eq_some_iff.1 h.row).1
  have hk : ∀ k, k ≤ sg → w6.heap[k]? = W.heap[k]? := fun k hk => by
    rw [ht.block k (by have := hb.size; omega) (fun q => by have := hv k q; omega), hb.block k (by omega)]
  have hr6 := (hk sg (Nat.le_refl _)).trans h.row
  have hset := Trd.setCell (S := (· = sg)) w6 ⟨sg, 0, none⟩ v6 rfl
  have hsz : sg < w6.heap.size := (Array.getElem?_eq_some_iff.1 hr6).1
  refine ⟨(se_cells hr6).1.1, se_frozen hr6 0, h.keep (heap_setCell_row hr6 v6) (fun k q => (hset.block k (by omega) (by omega)).trans (hk k (by omega))), ownsRow_setCell_below ho hsg v6, fun w1 h1 hB => ?_⟩
  exact ⟨ht.os.trans (hb.os.trans hB.os), ht.tape.trans (hb.tape.trans hB.tape), ht.output.trans (hb.output.trans hB.output), Nat.le_trans hB.size (Nat.le_trans hb.size (Nat.le_trans ht.size hset.size)), fun i hi => ((hset.block i (by omega) (by omega)).trans (hk i (by omega))).trans (hB.block i hi)⟩
theorem infoLt20 : (Tryd.prog.info? ltTy).map (fun i => (i.zero, i.size, i.bytes)) = some (some (.agg #[.int .i64 0, .int .i64 0, .int .i64 0, .int .i64 0]), 4, 32) := by kernel_rfl
def NlRel (L : List Lt) (w w1 : World) (sg bg B : Nat) (pv : Value) (bud : Int) (T : List Int) (i : Value) (W : World) : Prop :=
  ∃ (k : Nat) (lv : Value), k ≤ (plL L).length ∧ i = .int .i64 (k : Int) ∧ NwAt L w sg bg lv pv bud T 0 W ∧ OwnR ltV 4 ltTy B W lv (moM L ((plL L).take k)) ∧ B ≤ W.heap.size ∧ Below w1.heap.size w1 W
theorem ltV_one20 (x : Lt) : ∀ u ∈ ltV x, u.oneCell' = true := ltV_one x
theorem mo_snoc (L : List Lt) (pl : List Nat) {k : Nat} (h : k < pl.length) : moM L (pl.take (k + 1)) = moM L (pl.take k) ++ [L.getD (pl.getD k 0) ltZ] := by
  unfold moM
  rw [List.take_succ_eq_append_getElem h, List.map_append, List.getD_eq_getElem?_getD (l := pl), List.getElem?_eq_getElem h]
  rfl
theorem ns_end {L : List Lt} {w W : World} {sg bg B : Nat} {lv pv : Value} {bud : Int} {T : List Int} {co : Int} (h : NwAt L w sg bg lv pv bud T co W) (hsg : sg < B) (ho : OwnR ltV 4 ltTy B W lv (moM L (plL L))) (hT : T.length = L.length) :
    SeOf W sg bg lv pv (moM L (plL L)) (plL L) ∧ SeAt W sg bg lv pv bud ⟨[], T, co, 0⟩ W := by
  have hlt := (Array.getElem?_eq_some_iff.1 h.row).1
  have hbs := h.bs
  have hown := ho
  obtain ⟨h1, h2⟩ := hown
  refine ⟨⟨hlt, by omega, by omega, fun a n c he => ?_, fun W' ht => (ho.row ltV_len).trd ltV_len ht fun b hb hn => ?_, fun W' ht => ?_⟩, ⟨⟨_, by rw [show (⟨[], T, co, 0⟩ : Se).best.length = L.length from hT]; exact h.row, World.ownsRow_nil _ _ _ _⟩, h.best, Trd.refl _ _⟩⟩
  · rcases h2 with ⟨h2, _⟩ | ⟨g, cap, cur, hv, _⟩
    · rw [h2] at he
      simp only [Value.slice.injEq] at he
      exact .inl he.1.symm
    · rw [hv] at he
      simp only [Value.slice.injEq] at he
      exact .inr ⟨g, 0, he.1.symm⟩
  · have := (World.ownsRow.lt ho b hb).1
    rcases hn with rfl | rfl <;> omega
  · have hr : Reads .i64 W pv (nats (plL L)) := by
      by_cases h0 : 0 < (plL L).length
      · obtain ⟨g, c, rfl, _⟩ := own_some h.places h0
        exact (show OnI w.heap.size g c (plL L).length W (nats (plL L)) from ⟨nats_len _, h.places⟩).reads
      · have e : plL L = [] := List.eq_nil_of_length_eq_zero (by omega)
        have hp := h.places
        unfold OwnN at hp
        rw [e] at hp ⊢
        obtain ⟨p1, p2⟩ := hp
        rcases p2 with ⟨p2, _⟩ | ⟨g, cap, cur, hv, hb, hg, hn, hc, _⟩
        · rw [p2]; exact Reads.nil _ _
        · rw [hv]
          exact ⟨_, 0, cap, rfl, rfl, hn, hc, (fun q => by cases q), fun ad had i hi => by omega⟩
    refine hr.trd ht fun b hb hn => ?_
    have := h.pb b hb
    rcases hn with rfl | rfl <;> omega
set_option maxRecDepth 100000 in
set_option maxHeartbeats 12800000 in
theorem new20_any (A : Nat → Addr) (lv cv : Value) (L : List Lt) (C : List Int) (n bud : Int) (w : World) (h : PbR w lv cv L C) (hE : ErrsOn [2, 4] w A) (hok : OkP L C n) (hm : n ≤ wo L C (full L)) :
    Calls Tryd.prog 37 #[pbA lv cv n, .int .i64 bud] w (NsAt L C n bud w) := by
  have hL8 := hok.1.1.2
  have hb0 := below_pb w pbTy lv cv n
  have hpb := pbAt_new w pbTy lv cv n
  have hc := hpb.cells
  have hs0 := hidden (show PbS (w.alloc (pbO pbTy lv cv n)) w.heap.size lv cv n (w.alloc (pbO pbTy lv cv n)).drew from ⟨hc.1, hc.2.1, hc.2.2, (Below.refl _ _).drew⟩)
  have hR := hidden (fun W (hW : Below (w.alloc (pbO pbTy lv cv n)).heap.size (w.alloc (pbO pbTy lv cv n)) W) => h.below (hb0.trans (hW.mono hb0.size)) (Nat.le_refl _))
  have hEW := hidden (fun W (hW : Below (w.alloc (pbO pbTy lv cv n)).heap.size (w.alloc (pbO pbTy lv cv n)) W) => hE.below (hb0.trans (hW.mono hb0.size)) (Nat.le_refl _))
  have hbW := hidden (fun W (hW : Below (w.alloc (pbO pbTy lv cv n)).heap.size (w.alloc (pbO pbTy lv cv n)) W) => hb0.trans (hW.mono hb0.size))
  have hcW := hidden (fun W (hW : Below (w.alloc (pbO pbTy lv cv n)).heap.size (w.alloc (pbO pbTy lv cv n)) W) => (hpb.below hW (Nat.le_refl _)).cells)
  have hCh := hidden (fun W hW => cheapest20_any lv L W (hR.out W hW).lots h.big hL8)
  have hFc := hidden (fun W hW => first20_any A lv cv L C n W (hR.out W hW) (hEW.out W hW) hL8)
  unfold Cq20At at hCh
  unfold FcAt at hFc
  have hgood := hidden (fc_good hok hm (grB L C n) (by unfold grB; rw [decide_eq_true hok]; rfl))
  have hCo := hidden (fun W tv hW hr => ltCost_any A lv cv L C n tv (fcL L C n (grB L C n)) W (hR.out W hW) hr (hEW.out W hW))
  have hcv : coV L C n (fcL L C n (grB L C n)) = co L (fcL L C n (grB L C n)) := by unfold coV; rw [goodB_yes hok hgood.out.1, if_pos rfl]
  rw [hcv, goodB_yes hok hgood.out.1] at hCo
  have hsz : (w.alloc (pbO pbTy lv cv n)).heap.size = w.heap.size + 1 := by simp
  have hTl := hidden hgood.out.1.1
  unfold NsAt
  obtain ⟨la, lc, rfl⟩ := row_slice h.lots
  obtain ⟨ca, cc, rfl⟩ := reads_slice h.caps
  generalize fcL L C n (grB L C n) = T at *
  obtain ⟨c0, c1, c2⟩ := hc
  clear hb0 hpb hE hcv hgood
  go_enter Tryd.func37, Tryd.ntmps37
  go_upto_region 1 with (fail)
  generalize w.alloc (pbO pbTy (.slice la L.length lc) (.slice ca C.length cc) n) = w1 at *
  go_cut [5] (fun v wx => ∃ sg bg pv, v = .pointer (some ⟨sg, 0, none⟩) ∧ NwAt L w sg bg (.slice none 0 0) pv bud T 0 wx ∧ Below w1.heap.size w1 wx)
  case first =>
    go_region_held3 (fun W => W.cell? ⟨w.heap.size, 0, none⟩ = some (.slice la L.length lc) ∧ W.cell? ⟨w.heap.size, 1, none⟩ = some (.slice ca C.length cc) ∧ W.cell? ⟨w.heap.size, 2, none⟩ = some (.int .i64 n) ∧ Below w1.heap.size w1 W)
      ((first | with_reducible exact hs0.out | with_reducible assumption | exact pbS_next (w0 := w1) (by assumption) hb5 | exact pbS_next (w0 := w1) (by assumption) hb6 | exact pbS_next (w0 := w1) (W := w6) (by assumption) ((Below.refl _ _).alloc (Nat.le_refl _) _)))
      ((first
        | (go_at_call 54; (with_reducible refine (hCh.out _ (And.right (And.right (And.right (by assumption))))).mono ?_); rintro e w5 ⟨pv, rfl, hown5, hb5⟩; obtain ⟨pa, pc, rfl⟩ := own_shapeN hown5)
        | (go_at_call 55; (with_reducible refine (hFc.out _ (And.right (And.right (And.right (by assumption))))).mono ?_); rintro e w6 ⟨bg, rfl, hbg, hN6, hb6⟩)))
    all_goals
      rename_i hh
      have hlow := hh.2.2.2
      clear hh
      go_wp2_with fail
      go_meet
      exact ⟨w6.heap.size, bg, _, rfl, ⟨heap_alloc_new w6 _, own_from (own_below (own_below hown5 hb6 (Nat.le_refl _)) ((Below.refl _ w6).alloc (Nat.le_refl _) _) (Nat.le_refl _)) (hbW.out _ (Below.refl _ _)).size, hN6.below ((Below.refl _ w6).alloc (Nat.le_refl _) _) (Nat.le_refl _), (fun b hb => Nat.lt_of_lt_of_le (World.ownsRow.lt hown5 b hb).2 hbg), hN6.lt, Nat.le_trans (hbW.out _ (Below.refl _ _)).size (Nat.le_trans hb5.size hbg)⟩, hlow⟩
  case rest =>
    obtain ⟨sg, bg, pv, rfl, hN, hbx⟩ := hcut
    have hsgc := (Array.getElem?_eq_some_iff.1 hN.row).1
    have hpl8 := hidden (show (plL L).length ≤ 8 from by have := plL_len L; have := plF_len L L.length; omega)
    have hst := hidden (show NlRel L w w1 sg bg wc.heap.size pv bud T (.int .i64 ((0 : Nat) : Int)) wc from ⟨0, _, Nat.zero_le _, rfl, hN, World.ownsRow_nil _ _ _ _, Nat.le_refl _, hbx⟩)
    have hw1s := hidden (show w1.heap.size ≤ sg from by have := hN.bs; have := hN.lo; omega)
    obtain ⟨pa, pc, rfl⟩ := own_shapeN hN.places
    obtain ⟨⟨_, n1, _, _⟩, _⟩ := se_cells hN.row
    have hpl := hidden (fun j (hj : j < (plL L).length) => pl_lt (L := L) hj)
    replace hsgc := hidden hsgc
    clear hN hbx hs0 hCh hFc c0 c1 c2
    go_wp2_with fail
    go_loopw [21] (fun i wr => NlRel L w w1 sg bg wc.heap.size (.slice pa (plL L).length pc) bud T i wr) (fun i _ => (plL L).length - (RowKit.intOf i).toNat)
    case atStart => exact hst.out
    case round =>
      clear hst n1
      obtain ⟨k, lv2, hk, rfl, hN, ho, hBr, hb⟩ := hrel
      obtain ⟨p0, p1, p2⟩ := hcW.out _ hb
      obtain ⟨sa, sc, rfl⟩ := row_slice (ho.row ltV_len)
      have hml : (moM L ((plL L).take k)).length = k := by rw [mo_len, List.length_take]; omega
      rw [hml] at hN ho
      by_cases hlt : k < (plL L).length
      · obtain ⟨pb, pcc, hpe, _⟩ := own_some hN.places (by omega)
        simp only [Value.slice.injEq] at hpe
        obtain ⟨rfl, _, rfl⟩ := hpe
        have cp := (show OnI w.heap.size pb pc (plL L).length wr (nats (plL L)) from ⟨nats_len _, hN.places⟩).cell hlt
        rw [nats_at] at cp
        have hil := hpl.out k hlt
        have hsn := hidden (mo_snoc L (plL L) hlt)
        have hlI : (k : Int) < ((plL L).length : Int) := by omega
        have hiI : (((plL L).getD k 0 : Nat) : Int) < (L.length : Int) := by omega
        have hi0 : (0 : Int) ≤ (((plL L).getD k 0 : Nat) : Int) := by omega
        obtain ⟨lb, lo, rfl, q0, q1, q2, q3⟩ := rowLt_at (hR.out wr hb).lots _ hil
        generalize (plL L).getD k 0 = i at *
        have hB5 := hidden (fun o => show wc.heap.size ≤ (wr.drew.alloc o).heap.size from Nat.le_trans hBr (((Below.refl _ wr).drew).alloc (Nat.le_refl _) o).size)
        have hle := hidden (fun x => show (moM L ((plL L).take k) ++ [x]).length = k + 1 from by rw [List.length_append, hml]; rfl)
        have hBs := hidden hBr
        clear hBr
        have hap := hidden (fun v6 w6 st o ht ho6 => nw_app (v6 := v6) (w6 := w6) (st := st) hN hsgc.out (fun g hg => (World.ownsRow.lt ho g hg).1) o ht ho6)
        obtain ⟨⟨c0, _, _, _⟩, _⟩ := se_cells hN.row
        have f0 := se_frozen hN.row 0
        have c0a : ∀ o, (wr.alloc o).cell? ⟨sg, 0, none⟩ = some (.slice sa k sc) := fun o => Go.Lib.cell?_alloc_some o c0
        have hk8 : k ≤ 1000000 := by have := hpl8.out; omega
        have hb0 := hidden hb
        have ho' := hidden ho
        clear hN hb ho
        generalize L.getD i ltZ = x at *
        obtain ⟨xu, xv, xc, xg⟩ := x
        simp only at q0 q1 q2 q3
        go_wp2_with fail
        go_region_law (refine step_appRK (by rfl) _ _ _ (by rfl) ltV_len ltV_one (by decide) ltTy Tryd.underlying22 infoLt20 (by rfl) (by decide) wc.heap.size (.slice sa k sc) (moM L ((plL L).take k)) (by rfl) (OwnR.alloc (w := wr.drew) ho'.out _) (ys := [⟨xu, xv, xc, xg⟩]) (by rfl) (row_new (w := wr.drew) ltV_len _ [⟨xu, xv, xc, xg⟩] 1 rfl rfl (by decide)) (by omega) (by simp) (hB5.out _) ?_; intro v6 w6 hown6 htr6; obtain ⟨g2, g3, g4, g5, g6⟩ := hap.out _ _ _ _ htr6 hown6; obtain ⟨va, vc, rfl⟩ := row_slice (hown6.row ltV_len); have hsz6 := hidden (show wc.heap.size ≤ w6.heap.size from Nat.le_trans (hB5.out _) htr6.size); replace g4 := hidden g4; replace g5 := hidden g5; replace g6 := hidden g6; clear hown6 htr6)
        all_goals
          have hfin := hidden (show NlRel L w w1 sg bg wc.heap.size (.slice (some ⟨pb, 0, none⟩) (plL L).length pc) bud T (.int .i64 ((k + 1 : Nat) : Int)) (w6.setCell ⟨sg, 0, none⟩ (.slice va (k + 1) vc)) from by
            have g4' := g4.out
            have g5' := g5.out
            have g6' := g6.out w1 hw1s.out hb0.out
            rw [hle.out] at g4' g5' g6'
            exact ⟨k + 1, _, hlt, rfl, g4', by rw [hsn.out]; exact g5', by have := hsz6.out; simpa [World.setCell] using this, g6'⟩)
          clear g4 g5 g6
          go_wp2
          go_roundw
          case rel => exact hfin.out
          case measure => simp [RowKit.intOf]; omega
      · obtain rfl : k = (plL L).length := by omega
        rw [List.take_length] at ho
        obtain ⟨⟨_, _, _, n3⟩, n4, _, _⟩ := se_cells hN.row
        have hTr := hN.best.reads hTl.out (by omega)
        have hCo' := hidden (hCo.out wr.drew _ hb.drew (hTr.same fun _ _ => rfl))
        have hgb := hN.bs
        have hbl := hN.lo
        have hne0 : w.heap.size ≠ sg := by omega
        have hS := hidden (fun W (hW : Below wr.heap.size wr W) => show W.cell? ⟨w.heap.size, 0, none⟩ = some (.slice la L.length lc) ∧ W.cell? ⟨w.heap.size, 1, none⟩ = some (.slice ca C.length cc) ∧ W.cell? ⟨w.heap.size, 2, none⟩ = some (.int .i64 n) ∧ W.cell? ⟨sg, 3, none⟩ = some (.slice (some ⟨bg, 0, none⟩) L.length L.length) from by
          obtain ⟨e0, e1, e2⟩ := hcW.out W (hb.trans (hW.mono hb.size))
          obtain ⟨⟨_, _, _, e3⟩, _⟩ := se_cells ((hW.block _ (Array.getElem?_eq_some_iff.1 hN.row).1).trans hN.row)
          exact ⟨e0, e1, e2, e3⟩)
        have hS4 := hidden (fun W v (hW : Below wr.heap.size wr W) => show (W.setCell ⟨sg, 4, none⟩ v).cell? ⟨w.heap.size, 0, none⟩ = some (.slice la L.length lc) ∧ (W.setCell ⟨sg, 4, none⟩ v).cell? ⟨w.heap.size, 1, none⟩ = some (.slice ca C.length cc) ∧ (W.setCell ⟨sg, 4, none⟩ v).cell? ⟨w.heap.size, 2, none⟩ = some (.int .i64 n) ∧ (W.setCell ⟨sg, 4, none⟩ v).cell? ⟨sg, 3, none⟩ = some (.slice (some ⟨bg, 0, none⟩) L.length L.length) from by
          obtain ⟨e0, e1, e2, e3⟩ := hS.out W hW
          refine ⟨?_, ?_, ?_, ?_⟩
          · rw [World.cell?_setCell_other (h := fun q => hne0 (by simp only [Addr.mk.injEq] at q; omega))]; exact e0
          · rw [World.cell?_setCell_other (h := fun q => hne0 (by simp only [Addr.mk.injEq] at q; omega))]; exact e1
          · rw [World.cell?_setCell_other (h := fun q => hne0 (by simp only [Addr.mk.injEq] at q; omega))]; exact e2
          · rw [World.cell?_setCell_other (h := fun q => by simp only [Addr.mk.injEq] at q; omega)]; exact e3)
        have h4 := hidden (fun W (hW : Below wr.heap.size wr W) => show W.cell? ⟨sg, 4, none⟩ = some (.int .i64 0) ∧ W.frozen? ⟨sg, 4, none⟩ = false from by
          have hr := (hW.block _ (Array.getElem?_eq_some_iff.1 hN.row).1).trans hN.row
          exact ⟨(se_cells hr).2.1, se_frozen hr 4⟩)
        have hend := hidden (fun W (hW : Below wr.heap.size wr W) => show SeOf (W.setCell ⟨sg, 4, none⟩ (.int .i64 (co L T))) sg bg (.slice sa (plL L).length sc) (.slice pa (plL L).length pc) (moM L (plL L)) (plL L) ∧ SeAt (W.setCell ⟨sg, 4, none⟩ (.int .i64 (co L T))) sg bg (.slice sa (plL L).length sc) (.slice pa (plL L).length pc) bud ⟨[], T, co L T, 0⟩ (W.setCell ⟨sg, 4, none⟩ (.int .i64 (co L T))) ∧ Below w.heap.size w (W.setCell ⟨sg, 4, none⟩ (.int .i64 (co L T))) from by
          have hr := (hW.block _ (Array.getElem?_eq_some_iff.1 hN.row).1).trans hN.row
          have hNW := hN.below hW
          have hN5 := hNW.keep (heap_setCell_row (o := 4) hr (.int .i64 (co L T))) (fun k q => (Trd.setCell (S := (· = sg)) W ⟨sg, 4, none⟩ (.int .i64 (co L T)) rfl).block k (by have := (Array.getElem?_eq_some_iff.1 hr).1; omega) (by omega))
          obtain ⟨g1, g2⟩ := ns_end hN5 hsgc.out (ownsRow_setCell_below (own_below ho hW (Nat.le_refl _)) hsgc.out (.int .i64 (co L T))) hTl.out
          exact ⟨g1, g2, (hbW.out _ (hb.trans (hW.mono hb.size))).setCell (p := ⟨sg, 4, none⟩) (by show w.heap.size ≤ sg; omega) _⟩)
        have hlo := hidden (show w.heap.size ≤ sg ∧ w.heap.size ≤ bg from ⟨by omega, by omega⟩)
        generalize hc0 : co L T = c0 at *
        replace hc0 := hidden hc0
        clear hN ho hb hBr hTr hCo hR hEW n3 n4 p0 p1 p2 hgb hbl
        go_wp2_with fail
        go_region_held3 (fun W => W.cell? ⟨w.heap.size, 0, none⟩ = some (.slice la L.length lc) ∧ W.cell? ⟨w.heap.size, 1, none⟩ = some (.slice ca C.length cc) ∧ W.cell? ⟨w.heap.size, 2, none⟩ = some (.int .i64 n) ∧ W.cell? ⟨sg, 3, none⟩ = some (.slice (some ⟨bg, 0, none⟩) L.length L.length))
          ((first | with_reducible exact hS.out _ (Below.refl _ _).drew | with_reducible assumption | with_reducible exact hS.out _ hz5.out | with_reducible exact hS4.out _ _ hz5.out))
          ((go_at_call 21; (with_reducible refine hCo'.out.mono ?_); rintro r w5 ⟨rfl, hb5⟩; have hz5 := hidden (show Below wr.heap.size wr w5 from (Below.refl _ wr).drew.trans hb5); obtain ⟨m4, f4⟩ := h4.out _ hz5.out))
        all_goals
          rename_i hh
          clear hh
          have hfin := hidden (hend.out _ hz5.out)
          clear hz5 hb5
          go_wp2
          go_ret
          exact ⟨sg, bg, _, _, rfl, hfin.out.1, by rw [hc0.out]; exact hfin.out.2.1, hlo.out.1, hlo.out.2, hfin.out.2.2⟩
end Go.Proofs.YtmihpgccdknhfaaDoor
