import Derived.Test.YtpfieoemojnioaaDoorLotsGreedyWalk
import Derived.Test.YtpfieoemojnioaaDoorNumber
namespace Go.Proofs.YtpfieoemojnioaaDoor
open Go.RowKit
set_option linter.unusedVariables false

theorem infoL64 : (Tryd.prog.info? 2).map (fun i => (i.zero, i.size, i.bytes)) = some (some (.int .i64 0), 1, 8) := by kernel_rfl
theorem own_apart18 {w : World} {base : Nat} {e : TypeId} {v : Value} {n : Nat} {xs : List Value} (h : w.ownsRow base e 1 v n xs) {a : Addr} (ha : a.block < base) (u : Value) : (w.setCell a u).ownsRow base e 1 v n xs := by
  obtain ⟨h1, h2⟩ := h
  refine ⟨h1, ?_⟩
  rcases h2 with h2 | ⟨g, cap, cur, hv, hg, hh, r⟩
  · exact .inl h2
  · exact .inr ⟨g, cap, cur, hv, hg, by rw [(Trd.setCell (S := (· = a.block)) w a u rfl).block g (Array.getElem?_eq_some_iff.1 hh).1 (show ¬ g = a.block by omega)]; exact hh, r⟩
theorem pbAt_set {w : World} {g : Nat} {t : TypeId} {lv cv : Value} {n : Int} (h : PbAt w g t lv cv n) (cv' : Value) : PbAt (w.setCell ⟨g, 1, none⟩ cv') g t lv cv' n := ⟨heap_setCell_row h.row cv'⟩
theorem PbAt.frozen {w : World} {g : Nat} {t : TypeId} {lv cv : Value} {n : Int} (h : PbAt w g t lv cv n) (o : Nat) : w.frozen? ⟨g, o, none⟩ = false := by
  have := h.row
  simp [World.frozen?, this]
def FrRel (m fb : Nat) (lv : Value) (n : Int) (w0 : World) (i : Value) (w : World) : Prop :=
  ∃ (k : Nat) (v : Value), k ≤ m ∧ i = .int .i64 (k : Int) ∧ PbAt w fb pbTy lv v n ∧ w.ownsRow (fb + 1) 2 1 v k (ivs (List.replicate k 0)) ∧ Below w0.heap.size w0 w
theorem zeros_snoc (k : Nat) : ivs (List.replicate k 0) ++ [Value.int .i64 0] = ivs (List.replicate (k + 1) 0) := by
  rw [← ivs_snoc, List.replicate_succ']
/-- what is known of a problem, a take of it and one unit more. -/
structure Grow (L : List Lt) (C t : List Int) (n : Int) (i : Nat) : Prop where
  up : wo L C t ≤ wo L C (plus t i) ∧ wo L C (plus t i) ≤ wo L C t + (L.getD i ltZ).v
  cost : co L (plus t i) = co L t + (L.getD i ltZ).c
  free : wo L C t ≤ wo L (List.replicate C.length 0) t
  freeUp : wo L (List.replicate C.length 0) (plus t i) = wo L (List.replicate C.length 0) t + (L.getD i ltZ).v
  most : wo L C (plus t i) ≤ wo L C (full L)
theorem grow_of {L : List Lt} {C t : List Int} {n : Int} {i : Nat} (h : OkP L C n) (ht : TkOk L t) (hi : i < L.length) (hu : t.getD i 0 < (L.getD i ltZ).u) : Grow L C t n i :=
  ⟨wo_up h ht.1 hi, co_up ht.1 hi, wo_free t, wo_free_up (ok_free h) (fun j hj => zeros_at _ _) ht.1 hi, wo_most h (tk_plus ht hi hu)⟩
theorem woV_yes {L : List Lt} {C t : List Int} {n : Int} (h : goodB L C n t = true) : woV L C n t = wo L C t := by unfold woV; rw [if_pos h]
theorem coV_yes {L : List Lt} {C t : List Int} {n : Int} (h : goodB L C n t = true) : coV L C n t = co L t := by unfold coV; rw [if_pos h]
set_option maxRecDepth 100000 in
set_option maxHeartbeats 25600000 in
theorem walk_lotsGrow (p : PbX) (tv : Value) (t : List Int) (at_ : Int) (A : Nat → Addr) (w : World) (hp : PbIs w p) (hr : Reads .i64 w tv t) (htb : ∀ x ∈ t, -9223372036854775808 ≤ x ∧ x ≤ 9223372036854775807) (a0 : -9223372036854775808 ≤ at_) (a1 : at_ ≤ 9223372036854775807) (hS : SentsOn [2, 4] w A) :
    Calls Tryd.prog 4 #[pbA p.lv p.cv p.n, tv, .int .i64 at_] w fun r w' => r = .returned (.bool true) ∧ Below w.heap.size w w' := by
  obtain ⟨lv, cv, L, C, n⟩ := p
  obtain ⟨hpr, hnd⟩ := hp
  simp only at hpr hnd
  have hb0 := below_pb w pbTy lv cv n
  have hpb := pbAt_new w pbTy lv cv n
  have hbx := hidden (fun W (hW : Below (w.alloc (pbO pbTy lv cv n)).heap.size (w.alloc (pbO pbTy lv cv n)) W) => hb0.trans (hW.mono hb0.size))
  have hc := hidden (fun W (hW : Below (w.alloc (pbO pbTy lv cv n)).heap.size (w.alloc (pbO pbTy lv cv n)) W) => (hpb.below hW (Nat.le_refl _)).cells)
  have hE := hidden (fun W (hW : Below (w.alloc (pbO pbTy lv cv n)).heap.size (w.alloc (pbO pbTy lv cv n)) W) => hS.on.below (hbx.out W hW) (Nat.le_refl _))
  have hR := hidden (fun W (hW : Below (w.alloc (pbO pbTy lv cv n)).heap.size (w.alloc (pbO pbTy lv cv n)) W) => hpr.below (hbx.out W hW) (Nat.le_refl _))
  have hT := hidden (fun W (hW : Below (w.alloc (pbO pbTy lv cv n)).heap.size (w.alloc (pbO pbTy lv cv n)) W) => hr.below (hbx.out W hW) (Nat.le_refl _))
  have hF := hidden (law18_first A _ (hE.out _ (Below.refl _ _)))
  have hLi := hidden (fun W hW => light_any lv cv L C n W (hR.out W hW))
  have hWo := hidden (fun W hW cv' C' tv t hr h => ltWorth2_any A lv cv' L C' n tv t W (h : PbR W lv cv' L C') hr (hE.out W hW))
  have hCo := hidden (fun W hW tv t hr => ltCost_any A lv cv L C n tv t W (hR.out W hW) hr (hE.out W hW))
  have hMo := hidden (fun W hW hl => ltMost_any A lv cv L C n W (hR.out W hW) hl (hE.out W hW))
  obtain ⟨la, lc, rfl⟩ := row_slice hpr.lots
  obtain ⟨ca, cc, rfl⟩ := reads_slice hpr.caps
  obtain ⟨ta, tc, rfl⟩ := reads_slice hr
  have hx := hidden (fun k hk W hW => rowLt_at (hR.out W hW).lots k hk)
  have hlen := hpr.len
  have htlen := hidden (reads_cap hr)
  have d0 := (hc.out _ (Below.refl _ _)).1
  have d1 := (hc.out _ (Below.refl _ _)).2.1
  have d2 := (hc.out _ (Below.refl _ _)).2.2
  clear hpr hS hb0 hpb hr
  go_enter Tryd.func4, Tryd.ntmps4
  go_wp2_with fail
  generalize w.alloc (pbO pbTy (.slice la L.length lc) (.slice ca C.length cc) n) = wP at *
  (with_reducible refine hF.out.mono ?_)
  rintro r w1 ⟨rfl, hb1⟩
  obtain ⟨c0, c1, c2⟩ := hc.out _ hb1
  have hW1 := hidden (hWo.out _ hb1 _ C _ t (hT.out _ hb1) (hR.out _ hb1))
  replace hb1 := hidden hb1
  clear hF d0 d1 d2
  generalize hgd : goodB L C n t = G at *
  go_wp2_with fail
  (with_reducible refine hW1.out.mono ?_)
  rintro r w2 ⟨rfl, hb2⟩
  replace hb2 := hidden (hb1.out.trans (hb2.mono hb1.out.size))
  obtain ⟨c0, c1, c2⟩ := hc.out _ hb2.out
  have hL2 := hidden (hLi.out _ hb2.out)
  clear hW1 hb1 hLi
  replace hgd := hidden hgd
  cases hli : decide (L.length ≤ 20 ∧ C.length ≤ 20)
  · rw [hli] at hL2
    clear hli hWo hCo hMo hx hE hR
    generalize woV L C n t = wv at *
    go_wp2_with fail
    (with_reducible refine hL2.out.mono ?_)
    rintro r w3 ⟨rfl, hb3⟩
    replace hb3 := hidden (hb2.out.trans (hb3.mono hb2.out.size))
    clear hL2 hc
    go_wp2
    go_ret
    exact ⟨rfl, hbx.out _ hb3.out⟩
  · rw [hli] at hL2
    clear hli
    cases G
    · generalize woV L C n t = wv at *
      clear hWo hCo hMo hx hE hR
      go_wp2_with fail
      (with_reducible refine hL2.out.mono ?_)
      rintro r w3 ⟨rfl, hb3⟩
      replace hb3 := hidden (hb2.out.trans (hb3.mono hb2.out.size))
      clear hL2 hc
      go_wp2
      go_ret
      exact ⟨rfl, hbx.out _ hb3.out⟩
    · obtain ⟨hok, htk⟩ := goodB_iff.1 hgd.out
      have hl := htk.1
      have hL1 := hok.1.1
      have hC1 := hok.1.2
      have hLI : (L.length : Int) ≤ 8 := by omega
      have htI : 1 ≤ (t.length : Int) ∧ (t.length : Int) ≤ 8 := by omega
      have ht0 : (((t.length : Nat) : Int) == 0) = false := by rw [beq_eq_false_iff_ne]; omega
      have hmod : 0 ≤ at_ % (t.length : Int) ∧ at_ % (t.length : Int) < (t.length : Int) := ⟨Int.emod_nonneg _ (by omega), Int.emod_lt_of_pos _ (by omega)⟩
      obtain ⟨i, hi⟩ : ∃ i : Nat, at_ % (t.length : Int) = (i : Int) := ⟨(at_ % (t.length : Int)).toNat, by omega⟩
      have nA := hidden (fun W => number_any at_ (t.length : Int) W a0 a1 (by omega) (by omega))
      rw [hi] at nA hmod
      have hit : i < t.length := by omega
      have hiL : i < L.length := by omega
      have hiI : (i : Int) < (t.length : Int) := by omega
      have hiI2 : (i : Int) < (L.length : Int) := by omega
      have hi0 : (0 : Int) ≤ (i : Int) := by omega
      obtain ⟨bl, ol, rfl, _⟩ := hx.out i hiL _ hb2.out
      have hq := hidden (fun W (h2 : Below wP.heap.size wP W) => show LotAt W bl (ol + i * 4) (L.getD i ltZ) by
        obtain ⟨b', o', e, q⟩ := hx.out i hiL _ h2
        simp only [Option.some.injEq, Addr.mk.injEq, and_true] at e
        obtain ⟨rfl, rfl⟩ := e
        exact q)
      obtain ⟨bt, ot, rfl, _⟩ := (hT.out _ hb2.out).cell i hit
      have hqt := hidden (fun W (h2 : Below wP.heap.size wP W) => show W.cell? ⟨bt, ot + i, none⟩ = some (.int .i64 (t.getD i 0)) by
        obtain ⟨b', o', e, q⟩ := (hT.out _ h2).cell i hit
        simp only [Option.some.injEq, Addr.mk.injEq, and_true] at e
        obtain ⟨rfl, rfl⟩ := e
        exact q)
      rw [woV_yes hgd.out]
      replace hl := hidden hl
      replace hok := hidden hok
      replace htk := hidden htk
      clear hx hi
      have hgs := hidden (fun (q : t.getD i 0 < (L.getD i ltZ).u) => grow_of hok.out htk.out hiL q)
      have hgp := hidden (fun (q : t.getD i 0 < (L.getD i ltZ).u) => tk_plus htk.out hiL q)
      have htu := (htk.out.2 i hiL)
      have hlo := hok.out.lot hiL
      have hwb := wo_bd hok.out htk.out
      have hcb := coS_bd hok.out htk.out (Nat.le_refl _)
      generalize hwv : wo L C t = wv at *
      replace hwv := hidden hwv
      go_wp2_with fail
      (with_reducible refine hL2.out.mono ?_)
      rintro r w3 ⟨rfl, hb3⟩
      replace hb3 := hidden (hb2.out.trans (hb3.mono hb2.out.size))
      obtain ⟨c0, c1, c2⟩ := hc.out _ hb3.out
      obtain ⟨q0, q1, q2, q3⟩ := hq.out _ hb3.out
      have ct := hqt.out _ hb3.out
      clear hL2 hb2
      by_cases hu : t.getD i 0 = (L.getD i ltZ).u
      · have hub : (t.getD i 0 == (L.getD i ltZ).u) = true := by rw [beq_iff_eq]; exact hu
        have hend := hidden (fun m => below_drewN (m := m) (hbx.out _ hb3.out))
        clear hu hgs hgp htu hlo hq hqt hWo hCo hMo hE hR
        generalize t.getD i 0 = x at *
        generalize L.getD i ltZ = y at *
        obtain ⟨yu, yv, yc, yg⟩ := y
        simp only at q0 q1 q2 q3 hub
        go_wp2_with (go_at_call 25; (with_reducible refine (nA.out _).mono ?_); rintro e w' ⟨rfl, rfl⟩)
        go_quiet (fail)
        go_wp2
        go_ret
        exact ⟨rfl, hend.out _⟩
      · have hlt : t.getD i 0 < (L.getD i ltZ).u := by omega
        have hub : (t.getD i 0 == (L.getD i ltZ).u) = false := by rw [beq_eq_false_iff_ne]; exact hu
        have hG := hgs.out hlt
        have htp := hgp.out hlt
        have hgdp := hidden (goodB_yes hok.out htp)
        have hwp := wo_bd hok.out htp
        have hcp := coS_bd hok.out htp (Nat.le_refl _)
        have hokf := ok_free hok.out
        have hf1 := wo_bd hokf htk.out
        have hf2 := wo_bd hokf htp
        have hgf1 := hidden (goodB_yes hokf htk.out)
        have hgf2 := hidden (goodB_yes hokf htp)
        have hmo := wo_bd hok.out (tk_full hok.out)
        have hmv : moV L C n = wo L C (full L) := by unfold moV; rw [woV_yes (goodB_yes hok.out (tk_full hok.out))]
        obtain ⟨⟨u1, u2⟩, u3, u4, u5, u6⟩ := hG
        rw [hwv.out] at u1 u2 u4
        have hIn := hidden (fun m => ints_own _ t (w3.drewN m) (hT.out _ (below_drewN hb3.out)) (by omega))
        have hop := hidden (fun (W : World) base v (h : W.ownsRow base 3 1 v t.length (ivs t)) => own_put h hit (t.getD i 0 + 1))
        rw [show t.set i (t.getD i 0 + 1) = plus t i from rfl] at hop
        have hpl := hidden (plus_len t i)
        have hwx : IntKind.i64.wrap (t.getD i 0 + 1) = t.getD i 0 + 1 := by unfold ltOk at hlo; rw [IntKind.wrap_i64]; omega
        have hb3d := hidden (fun m => below_drewN (m := m) hb3.out)
        have hlo2 := hlo.2.1
        have hlo3 := hlo.2.2.1
        have hcc : co L t = sumF (coF L t) L.length := rfl
        have hcc2 : co L (plus t i) = sumF (coF L (plus t i)) L.length := rfl
        rw [← hcc] at hcb
        rw [← hcc2] at hcp
        clear hcc hcc2 hu hgs hgp hlo htp hokf htu
        have hC1 := hidden (fun W hW => hCo.out W hW _ t (hT.out W hW))
        rw [hgd.out, coV_yes hgd.out] at hC1
        have hC2 := hidden (fun W hW tv => hCo.out W hW tv (plus t i))
        rw [hgdp.out, coV_yes hgdp.out] at hC2
        have hW2 := hidden (fun W hW tv hr => hWo.out W hW _ C tv (plus t i) hr (hR.out W hW))
        rw [hgdp.out, woV_yes hgdp.out] at hW2
        have hF1 := hidden (fun W hW cv' h => hWo.out W hW cv' (List.replicate C.length 0) _ t (hT.out W hW) h)
        rw [hgf1.out, woV_yes hgf1.out] at hF1
        have hF2 := hidden (fun W hW cv' tv hr h => hWo.out W hW cv' (List.replicate C.length 0) tv (plus t i) hr h)
        rw [hgf2.out, woV_yes hgf2.out] at hF2
        have hM := hidden (fun W hW => hMo.out W hW (by omega))
        rw [hmv] at hM
        clear hWo hCo hMo hgdp hgf1 hgf2 hmv hgd
        generalize wo L C (plus t i) = v1 at *
        generalize wo L (List.replicate C.length 0) (plus t i) = gq at *
        generalize wo L (List.replicate C.length 0) t = fq at *
        generalize co L (plus t i) = dq at *
        generalize co L t = cq at *
        generalize wo L C (full L) = mo at *
        generalize t.getD i 0 = x at *
        generalize hy : L.getD i ltZ = y at *
        replace hy := hidden hy
        obtain ⟨yu, yv, yc, yg⟩ := y
        simp only at q0 q1 q2 q3 hub u2 u3 u5 hlt hlo2 hlo3
        go_wp2_with (go_at_call 25; (with_reducible refine (nA.out _).mono ?_); rintro e w' ⟨rfl, rfl⟩)
        go_quiet (fail)
        go_wp2_with fail
        (with_reducible refine (hIn.out _).mono ?_)
        rintro r w4 ⟨v4, rfl, hown, hb4⟩
        obtain ⟨g4, cp4, rfl, hg4, hg4l, f4, c4, hown2⟩ := hop.out _ _ _ hown
        have hb5 := (hb3d.out _).trans (hb4.mono (hb3d.out _).size)
        have hb6 := hidden (hb5.setCell (p := ⟨g4, i, none⟩) (Nat.le_trans (hb3d.out _).size hg4) (.int .i64 (x + 1)))
        obtain ⟨e0, e1, e2⟩ := hc.out _ hb6.out
        have hrm := reads_of_own (xs := plus t i) hown2
        have hrm2 := hidden hrm
        have hW6 := hidden (hW2.out _ hb6.out _ hrm)
        clear hown hop hIn hown2 hb4 hb5 hb3d hrm
        go_wp2_with fail
        generalize hw6 : w4.setCell ⟨g4, i, none⟩ (.int .i64 (x + 1)) = w6 at *
        clear hw6 f4 c4 hg4l hg4 c0 c1 c2 q0 q1 q2 q3 ct e0 e1 e2 hW2 nA hqt
        have hB6 := hidden (fun W (h : Below w6.heap.size w6 W) => hb6.out.trans (h.mono hb6.out.size))
        have hrW := hidden (fun W (h : Below w6.heap.size w6 W) => hrm2.out.below h (Nat.le_refl _))
        (with_reducible refine hW6.out.mono ?_)
        rintro r w7 ⟨rfl, hb7⟩
        obtain ⟨e0, e1, e2⟩ := hc.out _ (hB6.out _ hb7)
        have hX := hidden (hC1.out _ (hB6.out _ hb7))
        replace hb7 := hidden hb7
        clear hW6 hC1 hrm2
        go_wp2_with fail
        (with_reducible refine hX.out.mono ?_)
        rintro r w8 ⟨rfl, hb8⟩
        replace hb8 := hidden (hb7.out.trans (hb8.mono hb7.out.size))
        obtain ⟨e0, e1, e2⟩ := hc.out _ (hB6.out _ hb8.out)
        replace hX := hidden (hC2.out _ (hB6.out _ hb8.out) _ (hrW.out _ hb8.out))
        clear hb7 hC2
        go_wp2_with fail
        (with_reducible refine hX.out.mono ?_)
        rintro r w9 ⟨rfl, hb9⟩
        replace hb9 := hidden (hb8.out.trans (hb9.mono hb8.out.size))
        obtain ⟨e0, e1, e2⟩ := hc.out _ (hB6.out _ hb9.out)
        have hb10 := hidden (below_pb w9 pbTy (.slice (some ⟨bl, ol, none⟩) L.length lc) (.slice none 0 0) n)
        obtain ⟨d0, d1, d2⟩ := hc.out _ (hB6.out _ (hb9.out.trans (hb10.out.mono hb9.out.size)))
        have hp10 := hidden (pbAt_new w9 pbTy (.slice (some ⟨bl, ol, none⟩) L.length lc) (.slice none 0 0) n)
        have hB9 := hidden (fun W (h : Below w9.heap.size w9 W) => hb9.out.trans (h.mono hb9.out.size))
        clear hX hb8
        go_wp2_with fail
        go_loopw [18] (fun i wr => FrRel C.length w9.heap.size (.slice (some ⟨bl, ol, none⟩) L.length lc) n w9 i wr) (fun i _ => C.length - (RowKit.intOf i).toNat)
        case atStart => exact ⟨0, .slice none 0 0, Nat.zero_le _, rfl, hp10.out, World.ownsRow_nil _ _ _ _, hb10.out⟩
        case round =>
          clear hp10 hb10 d0 d1 d2 e0 e1 e2
          obtain ⟨k, v, hk, rfl, hP, hown, hb11⟩ := hrel
          obtain ⟨c0, c1, c2⟩ := hc.out _ (hB6.out _ (hB9.out _ hb11))
          obtain ⟨e0, e1, e2⟩ := hP.cells
          by_cases hkm : k < C.length
          · have hkI : (k : Int) < (C.length : Int) := by omega
            have hk8 : k ≤ 8 := by omega
            have hsz := hP.lt
            replace hP := hidden hP
            replace hown := hidden hown
            replace hb11 := hidden hb11
            go_wp2_with (at_builtin; refine wpList_app1w rfl _ _ 23 rfl 2 Tryd.underlying23 infoL64 rfl (w9.heap.size + 1) _ _ _ rfl hown.out _ rfl rfl ⟨by omega, by omega⟩ hsz ?_)
            intro v2 w2 hown2 hb12
            rw [zeros_snoc] at hown2
            obtain ⟨a2, cp2, rfl⟩ := own_slice18 hown2
            have hP2 : PbAt w2 w9.heap.size pbTy (.slice (some ⟨bl, ol, none⟩) L.length lc) v n := ⟨by rw [hb12.block w9.heap.size (Nat.lt_succ_self _)]; exact hP.out.row⟩
            obtain ⟨e0, e1, e2⟩ := hP2.cells
            have f2 := hP2.frozen 1
            have hown3 := hidden (own_apart18 hown2 (a := ⟨w9.heap.size, 1, none⟩) (Nat.lt_succ_self _) (.slice a2 (k + 1) cp2))
            have hP3 := hidden (pbAt_set hP2 (.slice a2 (k + 1) cp2))
            have hb13 := hidden ((hb11.out.trans (hb12.mono (Nat.le_succ _))).setCell (p := ⟨w9.heap.size, 1, none⟩) (Nat.le_refl _) (.slice a2 (k + 1) cp2))
            clear hown hown2 hP hP2 hb11 hb12 hF1 hF2 hM
            go_wp2
            go_roundw
            case rel => exact ⟨k + 1, _, hkm, by go_num, hP3.out, hown3.out, hb13.out⟩
            case measure => simp [RowKit.intOf]; omega
          · obtain rfl : k = C.length := by omega
            have hWx := hB6.out _ (hB9.out _ hb11)
            have hPR : PbR wr (.slice (some ⟨bl, ol, none⟩) L.length lc) v L (List.replicate C.length 0) := ⟨(hR.out _ hWx).lots, reads_of_own (xs := List.replicate C.length 0) hown, (hR.out _ hWx).big, fun c hc => by rw [(List.mem_replicate.1 hc).2]; decide⟩
            have hX := hidden (hF1.out _ hWx _ hPR)
            have hB11 := hidden (fun W (h : Below wr.heap.size wr W) => hB9.out W (hb11.trans (h.mono hb11.size)))
            have hPB := hidden (fun W (h : Below wr.heap.size wr W) => And.intro (hPR.below h (Nat.le_refl _)) (hP.below h (Nat.le_refl _)).cells)
            clear hF1 hP hown hb11 hPR hWx hb9
            go_wp2_with fail
            (with_reducible refine hX.out.mono ?_)
            rintro r w10 ⟨rfl, hb14⟩
            obtain ⟨hPR, e0, e1, e2⟩ := hPB.out _ hb14
            replace hX := hidden (hF2.out _ (hB6.out _ (hB11.out _ hb14)) _ _ (hrW.out _ (hB11.out _ hb14)) hPR)
            replace hb14 := hidden hb14
            clear hF2 hPR
            go_wp2_with fail
            (with_reducible refine hX.out.mono ?_)
            rintro r w11 ⟨rfl, hb15⟩
            replace hb15 := hidden (hB6.out _ (hB11.out _ (hb14.out.trans (hb15.mono hb14.out.size))))
            obtain ⟨c0, c1, c2⟩ := hc.out _ hb15.out
            obtain ⟨q0, q1, q2, q3⟩ := hq.out _ hb15.out
            simp only at q0 q1 q2 q3
            replace hX := hidden (hM.out _ hb15.out)
            have hs1 : IntKind.i64.wrap (v1 - wv) = v1 - wv := by rw [IntKind.wrap_i64]; omega
            have hs2 : IntKind.i64.wrap (dq - cq) = yc := by rw [IntKind.wrap_i64]; omega
            have hs3 : IntKind.i64.wrap (gq - fq) = yv := by rw [IntKind.wrap_i64]; omega
            have hs4 : v1 - wv ≤ yv := by omega
            replace u3 := hidden u3
            replace u5 := hidden u5
            clear hM hPB hB11 hB9 hB6 hrW hb14 e0 e1 e2
            go_wp2_with fail
            (with_reducible refine hX.out.mono ?_)
            rintro r w12 ⟨rfl, hb16⟩
            replace hb16 := hidden (hbx.out _ (hb15.out.trans (hb16.mono hb15.out.size)))
            clear hX hb15
            go_wp2
            go_ret
            exact ⟨by simp <;> omega, hb16.out⟩
end Go.Proofs.YtpfieoemojnioaaDoor
