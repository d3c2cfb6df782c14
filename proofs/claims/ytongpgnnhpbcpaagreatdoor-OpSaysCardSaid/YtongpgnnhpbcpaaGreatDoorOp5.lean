/-
  Package op: Text.
-/
import Derived.Test.YtongpgnnhpbcpaaGreatDoorOp4
namespace Go.Proofs.YtongpgnnhpbcpaaGreatDoor
open Go.RowKit
set_option linter.unusedVariables false

/-- a word as a cell. -/
def wdF (l : List UInt8) : List Value := [bsV l]
theorem wdF_len : ∀ l, (wdF l).length = 1 := fun _ => rfl
theorem wdF_one : ∀ l, ∀ u ∈ wdF l, u.oneCell' = true := by
  intro l u hu
  simp only [wdF, List.mem_singleton] at hu
  subst hu; rfl
theorem infoWd : (Tryz.prog.info? 9).map (fun i => (i.zero, i.size, i.bytes)) = some (some (.string ByteArray.empty), 1, 16) := by kernel_rfl
abbrev OwnS (base : Nat) (w : World) (v : Value) (ws : List (List UInt8)) : Prop := OwnR wdF 1 9 base w v ws
theorem ownS_new (w : World) (x y : List UInt8) : OwnS w.heap.size (w.alloc (.cells #[bsV x, bsV y] 9)) (.slice (some ⟨w.heap.size, 0, none⟩) 2 2) [x, y] :=
  ⟨by simp [wdF], .inr ⟨w.heap.size, 2, #[bsV x, bsV y], rfl, Nat.le_refl _, heap_alloc_new w _, Nat.le_refl _, by unfold maxLen; decide, by simp, by simp [wdF]⟩⟩
theorem ownS_below {base B : Nat} {w w' : World} {v : Value} {ws : List (List UInt8)} (h : OwnR wdF 1 9 base w v ws) (hb : Below B w w') (hB : w.heap.size ≤ B) : OwnR wdF 1 9 base w' v ws := own_below h hb hB
theorem OwnS.drew {base : Nat} {w : World} {v : Value} {ws : List (List UInt8)} (h : OwnS base w v ws) : OwnS base w.drew v ws := h
/-- what does not lie in the words' block stays when a word is appended. -/
theorem beside25 {base k : Nat} {w w' : World} {v : Value} {ws : List (List UInt8)} {cs : Array Value} {t : TypeId} {fr : Nat × Nat} (hW : OwnS base w v ws) (ht : Trd (fun k => v.ownBlock = some k) w w') (hk : w.heap[k]? = some (.cells cs t fr)) (hne : t ≠ 9) : w'.heap[k]? = some (.cells cs t fr) := by
  refine (ht.block k (Array.getElem?_eq_some_iff.1 hk).1 fun e => ?_).trans hk
  rcases hW.2 with ⟨rfl, _⟩ | ⟨g, cap, cur, rfl, _, hg, _⟩
  · cases e
  · simp only [Value.ownBlock, Option.some.injEq] at e
    subst e
    rw [hk] at hg
    simp only [Option.some.injEq, Obj.cells.injEq] at hg
    exact hne hg.2.1
theorem own_beside25 {base B n : Nat} {w w' : World} {v pv : Value} {ws : List (List UInt8)} {xs : List Value} (hW : OwnS base w v ws) (ht : Trd (fun k => v.ownBlock = some k) w w') (h : w.ownsRow B 3 1 pv n xs) : w'.ownsRow B 3 1 pv n xs := by
  obtain ⟨h1, h2⟩ := h
  refine ⟨h1, ?_⟩
  rcases h2 with h2 | ⟨g, cap, cur, hv, hg, hh, r⟩
  · exact .inl h2
  · exact .inr ⟨g, cap, cur, hv, hg, beside25 hW ht hh (by decide), r⟩
theorem ownS_cells {base : Nat} {w : World} {v : Value} {ws : List (List UInt8)} (h : OwnS base w v ws) (h0 : ws ≠ []) :
    ∃ g c, v = .slice (some ⟨g, 0, none⟩) ws.length c ∧ g < w.heap.size ∧ ws.length ≤ c ∧ ∀ (j : Nat) x, (ws.map fun l => (⟨l.toArray⟩ : ByteArray))[j]? = some x → w.cell? ⟨g, 0 + j, none⟩ = some (.string x) := by
  obtain ⟨h1, h2⟩ := h
  rcases h2 with ⟨rfl, hn⟩ | ⟨g, cap, cur, rfl, hb, hg, hn, hc, hs, ht⟩
  · exact absurd (List.eq_nil_of_length_eq_zero hn) h0
  · refine ⟨g, cap, rfl, (Array.getElem?_eq_some_iff.1 hg).1, hn, fun j x hx => ?_⟩
    have hj : j < ws.length := by have := (List.getElem?_eq_some_iff.1 hx).1; simpa using this
    rw [Nat.zero_add, cell_of_row _ _ _ _ _ _ hg]
    have e1 : (cur.toList.take (ws.length * 1))[j]? = (ws.flatMap wdF)[j]? := by rw [ht]
    rw [List.getElem?_take, if_pos (by omega), Array.getElem?_toList] at e1
    rw [e1]
    have e2 := flatR_at wdF_len [] ws j 0 hj (by decide)
    rw [Nat.mul_one, Nat.add_zero] at e2
    rw [e2]
    rw [List.getElem?_map, List.getElem?_eq_getElem hj, Option.map_some, Option.some.injEq] at hx
    subst hx
    rw [List.getD_eq_getElem?_getD, List.getElem?_eq_getElem hj]
    rfl
theorem words_back (ws : List (List UInt8)) : (ws.map fun l => (⟨l.toArray⟩ : ByteArray)).map (·.data.toList) = ws := by
  rw [List.map_map]
  exact (List.map_congr_left fun l _ => rfl).trans (List.map_id' ws)

theorem opText_bad (A : Nat → Addr) (o : Opv) (w : World) (hE : OpEnv A w) (h : opE o ≠ 0) :
    Calls Tryz.prog 13 #[opV o] w fun e w' => e = .returned (bsV []) ∧ Below w.heap.size w w' := by
  have hw1 : Below w.heap.size w (w.alloc (opO o)) := (Below.refl _ _).alloc (Nat.le_refl _) _
  have hq := hidden (opValid_any A o _ ((hE.sents.on [2, 10] (by decide)).below hw1 (Nat.le_refl _)) (hE.rows.below hw1 (Nat.le_refl _)))
  obtain ⟨ea, hea⟩ := errOf_bad25 A h
  rw [hea] at hq
  replace hw1 := hidden hw1
  clear hE h hea
  go_enter Tryz.func13, Tryz.ntmps13
  go_wp2_with fail
  refine hq.out.mono ?_
  rintro e w1 ⟨rfl, hb⟩
  have hb1 := hidden (hw1.out.trans (hb.mono hw1.out.size))
  clear hq hb
  go_wp2
  go_ret
  exact ⟨rfl, hb1.out⟩
theorem txW_len {o : Opv} {K : Nat} (hK : o.kd = (K : Int)) : (txW o).length = 2 + (useL K).length := by
  unfold txW
  rw [hK, Int.toNat_natCast]
  simp; omega
theorem txW_two {o : Opv} {K : Nat} (hK : o.kd = (K : Int)) (h1 : 1 ≤ K) (h2 : K ≤ 16) : [Lib.itoa o.id, nmV o.kd] = (txW o).take (2 + 0) := by
  rw [nmV_in hK h1 h2]
  unfold txW
  rw [hK, Int.toNat_natCast]
  rfl
theorem txW_next {o : Opv} {K k : Nat} (hK : o.kd = (K : Int)) (hk : k < (useL K).length) : (txW o).take (2 + (k + 1)) = (txW o).take (2 + k) ++ [Lib.itoa (fo o ((useL K).getD k 0))] := by
  have hl := txW_len hK
  have e : (txW o).getD (2 + k) [] = Lib.itoa (fo o ((useL K).getD k 0)) := by
    unfold txW
    rw [hK, Int.toNat_natCast, show 2 + k = k + 1 + 1 by omega]
    simp only [List.getD_cons_succ]
    rw [List.getD_eq_getElem?_getD, List.getElem?_map, List.getElem?_eq_getElem hk, List.getD_eq_getElem?_getD, List.getElem?_eq_getElem hk]
    rfl
  rw [← e, show 2 + (k + 1) = 2 + k + 1 by omega, List.take_succ_eq_append_getElem (by omega), List.getD_eq_getElem?_getD, List.getElem?_eq_getElem (by omega)]
  rfl
theorem pl25_at {K k : Nat} (hk : k < (useL K).length) : (plL25 K).getD k 0 = ((useL K).getD k 0 : Int) ∧ (useL K).getD k 0 < 6 := by
  unfold plL25
  constructor
  · rw [List.getD_eq_getElem?_getD, List.getElem?_map, List.getElem?_eq_getElem hk, List.getD_eq_getElem?_getD, List.getElem?_eq_getElem hk]
    rfl
  · refine use_lt (k := K) _ ?_
    rw [List.getD_eq_getElem?_getD, List.getElem?_eq_getElem hk]
    exact List.getElem_mem hk
theorem pl25_len (K : Nat) : (plL25 K).length = (useL K).length := by simp [plL25]
def TxRel (o : Opv) (K : Nat) (f : Nat → Int) (g4 : Nat) (pv : Value) (B Bp : Nat) (w : World) (v i : Value) (wr : World) : Prop :=
  ∃ k : Nat, k ≤ (useL K).length ∧ i = .int .i64 (k : Int) ∧ OwnS B wr v ((txW o).take (2 + k)) ∧ FdAt wr g4 f ∧ wr.ownsRow Bp 3 1 pv (plL25 K).length (ivs (plL25 K)) ∧ Below B w wr
set_option maxRecDepth 100000 in
set_option maxHeartbeats 3200000 in
theorem opText_good (A : Nat → Addr) (o : Opv) (w : World) (hE : OpEnv A w) (h : opE o = 0) :
    Calls Tryz.prog 13 #[opV o] w fun e w' => e = .returned (bsV (txS o)) ∧ Below w.heap.size w w' := by
  have hok := op_fine.1 h
  have hw1 : Below w.heap.size w (w.alloc (opO o)) := (Below.refl _ _).alloc (Nat.le_refl _) _
  have ho1 := OpAt.mk (heap_alloc_new w (opO o))
  have hq := hidden (opValid_any A o _ ((hE.sents.on [2, 10] (by decide)).below hw1 (Nat.le_refl _)) (hE.rows.below hw1 (Nat.le_refl _)))
  rw [h, show errOf A 0 = .nilIface from rfl] at hq
  have hbig := hok.big
  have hD := hidden (fun W (hb : Below w.heap.size w W) (x : Int) (hx : -9223372036854775808 ≤ x ∧ x ≤ 9223372036854775807) => decimal_any A x W (hE.below hb (Nat.le_refl _)) hx.1 hx.2)
  have hRw := hidden (fun W (hb : Below w.heap.size w W) => hE.rows.below hb (Nat.le_refl _))
  have hF := hidden (fun W => fieldsOf_any o W)
  have hids := hidden hbig.ids
  have hfb := hidden (fun i => hbig.fld i)
  have hlen := hidden (tx_len hok)
  have htl := hidden (txS_len hok)
  obtain ⟨K, hK⟩ : ∃ K : Nat, Hid (o.kd = (K : Int) ∧ 1 ≤ K ∧ K ≤ 16) := ⟨o.kd.toNat, hidden (by have := hok.kd; omega)⟩
  replace hw1 := hidden hw1
  replace ho1 := hidden ho1
  clear hE h hbig hok
  go_enter Tryz.func13, Tryz.ntmps13
  go_wp2_with fail
  refine hq.out.mono ?_
  rintro e w2 ⟨rfl, hb2⟩
  have hb2' := hidden (hw1.out.trans (hb2.mono hw1.out.size))
  replace ho1 := hidden (ho1.out.below hb2)
  clear hq hb2 hw1
  go_upto_region 3 with (fail)
  have hs0 := hidden (two25 ho1.out (Below.refl w2.heap.size w2).drew)
  have hD2 := hidden (fun W (hb : Below w2.heap.size w2 W) => hD.out W (hb2'.out.trans (hb.mono hb2'.out.size)) o.id hids.out.1)
  have hN2 := hidden (fun W (hb : Below w2.heap.size w2 W) => name_any o.kd W (hRw.out W (hb2'.out.trans (hb.mono hb2'.out.size))))
  go_cut [3] (fun v wx => OwnS w.heap.size wx v [Lib.itoa o.id, nmV o.kd] ∧ Below w2.heap.size w2 wx)
  case first =>
    go_region_held3 (fun W => (W.cell? ⟨w.heap.size, 0, none⟩ = some (.int .i64 o.id) ∧ W.cell? ⟨w.heap.size, 1, none⟩ = some (.int .i64 o.kd)) ∧ Below w2.heap.size w2 W)
      ((first | exact hs0.out | assumption | exact two25 ho1.out hz5.out | exact two25 ho1.out (hz5.out.alloc hz5.out.size _)))
      ((first
        | (go_at_call 30; (with_reducible refine (hD2.out _ (by first | exact hs0.out.2 | exact two_low25 (by assumption))).mono ?_); rintro e' w5 ⟨rfl, hb5⟩; have hz5 := hidden (((by first | exact hs0.out.2 | exact two_low25 (by assumption) : Below w2.heap.size w2 _)).trans (hb5.mono (Below.size (by first | exact hs0.out.2 | exact two_low25 (by assumption))))))
        | (go_at_call 9; (with_reducible refine (hN2.out _ (by first | exact hz5.out | exact two_low25 (by assumption))).mono ?_); rintro e' w6 ⟨rfl, rfl⟩)))
    all_goals (go_wp2_with fail; go_meet; exact ⟨own_from (ownS_new _ _ _) (Nat.le_trans hb2'.out.size hz5.out.size), by first | exact hz5.out.alloc hz5.out.size _ | exact (hz5.out.alloc hz5.out.size _).drew⟩)
  case rest =>
    obtain ⟨hW, hbx⟩ := hcut
    replace hW := hidden hW
    replace ho1 := hidden (ho1.out.below hbx)
    replace hb2' := hidden (hb2'.out.trans (hbx.mono hb2'.out.size))
    clear hD2 hN2 hs0 hbx
    obtain ⟨c0, c1, c2, c3, c4, c5, c6, c7⟩ := ho1.out.cells
    go_wp2_with fail
    refine (hF.out _).mono ?_
    rintro e w4 ⟨rfl, hb4⟩
    replace hW := hidden (own_below hW.out hb4 (Nat.le_refl _))
    replace ho1 := hidden (ho1.out.below hb4)
    replace hb2' := hidden (hb2'.out.trans (hb4.mono hb2'.out.size))
    clear hF hb4 c0 c1 c2 c3 c4 c5 c6 c7
    generalize hfo : fo o = f at *
    replace hfo := hidden hfo
    have hlow := hidden (hb2'.out.alloc hb2'.out.size (fldO f))
    have hfd := hidden (FdAt.mk (heap_alloc_new w4 (fldO f)))
    replace hW := hidden (hW.out.alloc (fldO f))
    replace ho1 := hidden (ho1.out.below ((Below.refl w4.heap.size w4).alloc (Nat.le_refl _) (fldO f)))
    clear hb2'
    go_upto_region 5 with (fail)
    generalize w4.alloc (fldO f) = w5 at *
    generalize w4.heap.size = g4 at *
    obtain ⟨c0, c1, c2, c3, c4, c5, c6, c7⟩ := ho1.out.cells
    have hPl := hidden (show Calls Tryz.prog 31 #[.int .i64 o.kd] w5 _ from by rw [hK.out.1]; exact places_any25 K w5 (hRw.out _ hlow.out) hK.out.2.2)
    go_wp2_with fail
    refine hPl.out.mono ?_
    rintro e w6 ⟨pv, rfl, hpv, hb6⟩
    replace hW := hidden (own_below hW.out hb6 (Nat.le_refl _))
    replace hfd := hidden (hfd.out.below hb6)
    replace hlow := hidden (hlow.out.trans (hb6.mono hlow.out.size))
    clear c0 c1 c2 c3 c4 c5 c6 c7 hb6 hPl ho1
    have hst := hidden (show TxRel o K f g4 pv w.heap.size w5.heap.size w u3 (.int .i64 0) w6 from ⟨0, Nat.zero_le _, rfl, by rw [← txW_two hK.out.1 hK.out.2.1 hK.out.2.2]; exact hW.out, hfd.out, hpv, hlow.out⟩)
    obtain ⟨ap, np, hv⟩ := own_slice18 hpv
    rw [hv] at hst ⊢
    clear hv hpv hW hfd hlow
    have hpl := hidden (pl25_len K)
    generalize hnl : (plL25 K).length = nl at *
    replace hnl := hidden hnl
    go_wp2_with fail
    go_loopw [3, 23] (fun v i wr => TxRel o K f g4 (.slice ap nl np) w.heap.size w5.heap.size w v i wr) (fun _ i _ => nl - (intOf i).toNat)
    case atStart => exact hst.out
    case round =>
      clear hst
      obtain ⟨k, hk, rfl, hW, hfd, hpv, hb⟩ := hrel
      replace hW := hidden hW
      replace hfd := hidden hfd
      by_cases hlt : k < nl
      · have hkN : k < (useL K).length := by have := hpl.out; omega
        obtain ⟨hp1, hp2⟩ := pl25_at hkN
        have hrd : Reads .i64 wr (.slice ap nl np) (plL25 K) := reads_of_own hpv
        obtain ⟨bp, op, rfl, cp⟩ := hrd.cell k hlt
        rw [hp1] at cp
        have hnx := hidden (txW_next hK.out.1 hkN)
        rw [hfo.out] at hnx
        have htk := hidden (show ((txW o).take (2 + k)).length ≤ 1000000 by rw [List.length_take]; have := hlen.out; omega)
        generalize (useL K).getD k 0 = P at *
        have cf := hfd.out.cell P hp2
        have hP0 : (0 : Int) ≤ (P : Int) := by omega
        have hP6 : (P : Int) < 6 := by omega
        have hkI : (k : Int) < (nl : Int) := by omega
        have hk5 : k ≤ 5 := by have := (use_len hK.out.2.2).1; omega
        have hD5 := hidden (hD.out wr hb (f P) (hfb.out P))
        replace hpv := hidden hpv
        replace hb := hidden hb
        clear hrd hp1 hp2
        go_wp2_with fail
        refine hD5.out.mono ?_
        rintro e w7 ⟨rfl, hb7⟩
        have hW7 := hidden (ownS_below hW.out hb7 (Nat.le_refl _))
        have hfd7 := hidden (hfd.out.below hb7)
        have hpv7 := hidden (own_below hpv.out hb7 (Nat.le_refl _))
        have hlow7 := hidden (hb.out.trans (hb7.mono hb.out.size))
        have hB7 := hidden (show w.heap.size ≤ w7.heap.size from hlow7.out.size)
        clear hD5 hb7 cf cp hW hfd hpv hb
        go_wp2_with (at_builtin; refine wpList_appR1K rfl _ _ 25 rfl wdF_len wdF_one (by decide) 9 Tryz.underlying25 infoWd rfl (by decide) w.heap.size _ ((txW o).take (2 + k)) rfl hW7.out (Lib.itoa (f P)) _ rfl _ rfl (by simp) htk.out hB7.out ?_)
        intro v8 w8 hW8 hb8 ht8
        have hfd8 := hidden (FdAt.mk (beside25 hW7.out ht8 hfd7.out.row (by decide)))
        have hpv8 := hidden (own_beside25 hW7.out ht8 hpv7.out)
        rw [← hnx.out] at hW8
        replace hW8 := hidden hW8
        have hlow8 := hidden (hlow7.out.trans hb8)
        clear hW7 hfd7 hpv7 hlow7 hb8 ht8
        go_wp2
        go_roundw
        case rel => exact ⟨k + 1, by omega, by go_num, hW8.out, hfd8.out, hpv8.out, hlow8.out⟩
        case measure => simp [intOf]; omega
      · have hkL : k = (useL K).length := by have := hpl.out; omega
        have hall := hidden (show (txW o).take (2 + k) = txW o from List.take_of_length_le (by rw [txW_len hK.out.1]; omega))
        rw [hall.out] at hW
        obtain ⟨g, c, hv, hg, hc, hcells⟩ := ownS_cells hW.out (by simp [txW])
        have hJ := hidden (join_any25 g 0 c ((txW o).map fun l => (⟨l.toArray⟩ : ByteArray)) ⟨#[32]⟩ wr hcells hg (by rw [List.length_map]; have := hlen.out; omega) (by rw [List.length_map]; exact hc) (by rw [words_back]; exact Nat.le_trans htl.out (by decide)))
        rw [words_back, List.length_map] at hJ
        replace hb := hidden hb
        have hkI : ¬ (k : Int) < (nl : Int) := by omega
        rw [hv]
        clear hv hcells hc hg hW hfd hpv hkL hall
        go_wp2_with fail
        refine hJ.out.mono ?_
        rintro e w7 ⟨rfl, hb7⟩
        have hlow := hidden (hb.out.trans (hb7.mono hb.out.size))
        go_wp2
        go_ret
        exact ⟨rfl, hlow.out⟩
end Go.Proofs.YtongpgnnhpbcpaaGreatDoor
