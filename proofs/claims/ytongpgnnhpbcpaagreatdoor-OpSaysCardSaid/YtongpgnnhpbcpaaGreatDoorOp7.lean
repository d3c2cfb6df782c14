/-
  Package op: Parse, where the words have the shape of their kind.
-/
import Derived.Test.YtongpgnnhpbcpaaGreatDoorOp6
namespace Go.Proofs.YtongpgnnhpbcpaaGreatDoor
open Go.RowKit
set_option linter.unusedVariables false

/-- six fields of nothing, in a block. -/
abbrev zFd25 : Obj := .cells #[.int .i64 0, .int .i64 0, .int .i64 0, .int .i64 0, .int .i64 0, .int .i64 0] 53
theorem FdAt.frozen {w : World} {g : Nat} {f : Nat → Int} (h : FdAt w g f) (j : Nat) : w.frozen? ⟨g, j, none⟩ = false := by
  have := h.row
  simp [World.frozen?, this]
theorem FdAt.put {w : World} {g : Nat} {f f' : Nat → Int} {i : Nat} {x : Int} (h : FdAt w g f) (hi : i < 6) (hf : ∀ p, f' p = if p = i then x else f p) : FdAt (w.setCell ⟨g, i, none⟩ (.int .i64 x)) g f' := by
  refine ⟨?_⟩
  rw [heap_setCell_row h.row _]
  unfold fldO
  rw [hf 0, hf 1, hf 2, hf 3, hf 4, hf 5]
  match i, hi with
  | 0, _ => rfl
  | 1, _ => rfl
  | 2, _ => rfl
  | 3, _ => rfl
  | 4, _ => rfl
  | 5, _ => rfl
theorem own_trd25 {B g n : Nat} {w w' : World} {f : Nat → Int} {pv : Value} {xs : List Value} (h : w.ownsRow B 3 1 pv n xs) (hf : FdAt w g f) (ht : Trd (· = g) w w') : w'.ownsRow B 3 1 pv n xs := by
  obtain ⟨h1, h2⟩ := h
  refine ⟨h1, ?_⟩
  rcases h2 with h2 | ⟨k, cap, cur, hv, hg, hh, r⟩
  · exact .inl h2
  · refine .inr ⟨k, cap, cur, hv, hg, (ht.block k (Array.getElem?_eq_some_iff.1 hh).1 fun e => ?_).trans hh, r⟩
    subst e
    have := hf.row
    rw [hh] at this
    simp only [Option.some.injEq, Obj.cells.injEq] at this
    exact absurd this.2.1 (by decide)
theorem paS_next (ws : List (List UInt8)) (L : List Nat) (k p : Nat) : paS ws L (k + 1) p = if p = L.getD k 0 then (paN ws k).getD 0 else paS ws L k p := rfl
theorem paS_bd (ws : List (List UInt8)) (L : List Nat) : ∀ k p, 0 ≤ paS ws L k p ∧ paS ws L k p ≤ 1000000000000000000
  | 0, p => by simp [paS]
  | k + 1, p => by
    rw [paS_next]
    split
    · cases h : paN ws k with
      | none => simp
      | some x =>
        have := nuO_bd (show nuO _ = some x from h)
        simp; omega
    · exact paS_bd ws L k p
theorem pa_good {A : Nat → Addr} {ws : List (List UInt8)} (h1 : paShape ws = true) (h2 : paAll ws = true) : Ending.returned (.tuple #[opV (opR (paO ws)), errOf A (opE (paO ws))]) = .returned (.tuple #[opV (paR ws), errOf A (paC ws)]) := by
  obtain ⟨q1, q2⟩ := pa_end h1 h2
  rw [q1, q2]
def PaLoop (ws : List (List UInt8)) (L : List Nat) (g : Nat) (w6 : World) (i : Value) (wr : World) : Prop :=
  ∃ k : Nat, k ≤ L.length ∧ i = .int .i64 (k : Int) ∧ FdAt wr g (paS ws L k) ∧ (∀ j, j < k → (paN ws j).isSome = true) ∧ Trd (· = g) w6 wr
set_option maxRecDepth 100000 in
set_option maxHeartbeats 3200000 in
theorem parse_rest (A : Nat → Addr) (v : Value) (ws : List (List UInt8)) (w : World) (hE : OpEnv A w) (hY : SynOn w) (hW : Wds w v ws) (hs : 2 ≤ ws.length) (hk : paK ws ≠ 0) (hn : ws.length = 2 + (useL (paK ws)).length) (hI : nuO (ws.getD 0 []) ≠ none) :
    Calls Tryz.prog 17 #[v] w (PaAt25 A ws w) := by
  obtain ⟨a, c, rfl⟩ := row_slice hW
  obtain ⟨b, o, rfl⟩ := wds_some hW (by omega)
  obtain ⟨_, hnc, _, _⟩ := row_cap hW
  have hl : ¬ (ws.length : Int) < 2 := by omega
  have hl1 : (1 : Int) < (ws.length : Int) := by omega
  have hw1 := hidden (show Below w.heap.size w (w.alloc zOb25) from (Below.refl _ _).alloc (Nat.le_refl _) _)
  have hr := hidden (show OpAt (w.alloc zOb25) w.heap.size zeO from ⟨heap_alloc_new w zOb25⟩)
  have c17 := hidden (fun W (hb : Below w.heap.size w W) => show W.cell? ⟨6, 0, none⟩ = some (errAt (A 18)) from (hE.sents.on [18] (by decide)).below hb (Nat.le_refl _) 18 (by simp))
  have hgl := hidden (Nat.ne_of_lt (World.block_lt_of_cell? w _ (c17.out w (Below.refl _ _))))
  have hlow := hidden (show w.heap.size ≤ (w.alloc zOb25).heap.size from hw1.out.size)
  have k1 := wds_cell (hW.below wdF_len hw1.out (Nat.le_refl _)) 1 (by omega)
  have hK := hidden (kindOf_any ⟨(ws.getD 1 []).toArray⟩ (w.alloc zOb25) (hE.rows.below hw1.out (Nat.le_refl _)))
  have hK16 : paK ws ≤ 16 := kd_le (ws.getD 1 [])
  have hP := hidden (places_any25 (paK ws) (w.alloc zOb25) (hE.rows.below hw1.out (Nat.le_refl _)) hK16)
  have e0 : kdW ((⟨(ws.getD 1 []).toArray⟩ : ByteArray).data.toList) = paK ws := rfl
  rw [e0, decide_eq_true hk] at hK
  have hu := (use_len (k := paK ws) hK16).2 (Nat.pos_of_ne_zero hk)
  have hpl := pl25_len (paK ws)
  have hc : ¬ c = 2 := by omega
  obtain ⟨x0, hx0⟩ := Option.ne_none_iff_exists'.1 hI
  have hsh := hidden (pa_ok hs hk hn)
  have hfirst := hidden (show (nuO (ws.getD 0 [])).isSome = true by rw [hx0]; rfl)
  have hP2 := hidden (fun W (hb : Below w.heap.size w W) => places_any25 (paK ws) W (hE.rows.below hb (Nat.le_refl _)) hK16)
  have hN := hidden (fun W (hb : Below w.heap.size w W) s => number_any25 A s W (hE.below hb (Nat.le_refl _)) (hY.below hb (Nat.le_refl _)))
  have hC := hidden (fun W (hb : Below w.heap.size w W) f hf => checked_any A x0 (paK ws : Int) f W ((hE.sents.on [2, 10] (by decide)).below hb (Nat.le_refl _)) (hE.rows.below hb (Nat.le_refl _)) hf)
  have k0 := hidden (fun W (hb : Below w.heap.size w W) => wds_cell (hW.below wdF_len hb (Nat.le_refl _)) 0 (by omega))
  have hWb := hidden (fun W (hb : Below w.heap.size w W) => hW.below wdF_len hb (Nat.le_refl _))
  have hx0d := hidden (show paI ws = x0 by unfold paI; rw [hx0]; rfl)
  have hPO := hidden (show paO ws = mkO (paI ws) (paK ws : Int) (paS ws (useL (paK ws)) (useL (paK ws)).length) from rfl)
  have hat := hidden (fun j hj h => @pa_at ws j hj h)
  have hall := hidden (fun h => @pa_all ws hfirst.out h)
  generalize hKK : paK ws = K at *
  replace hKK := hidden hKK
  generalize ws.getD 1 [] = w1 at *
  have e1 : nuO ((⟨(ws.getD 0 []).toArray⟩ : ByteArray).data.toList) = some x0 := hx0
  have hne : ((ws.length : Int) - 2 != ((plL25 K).length : Int)) = false := by rw [bne_eq_false_iff_eq]; omega
  have hl0 : (0 : Int) < (ws.length : Int) := by omega
  have hN0 := hidden (fun W (hb : Below w.heap.size w W) => hN.out W hb ⟨(ws.getD 0 []).toArray⟩)
  rw [e1] at hN0
  generalize ws.getD 0 [] = w0 at *
  replace hn := hidden hn
  replace hpl := hidden hpl
  generalize hnl : (plL25 K).length = nl at *
  replace hnl := hidden hnl
  clear hE hW e0 hk hY hI e1 hx0
  go_enter Tryz.func17, Tryz.ntmps17
  go_wp2_with fail
  refine hK.out.mono ?_
  rintro e w2 ⟨rfl, rfl⟩
  go_wp2_with fail
  refine hP.out.mono ?_
  rintro e w3 ⟨pv, rfl, hpv, hb3⟩
  obtain ⟨ap, np, rfl⟩ := own_slice18 hpv
  have hlw := hidden (hw1.out.trans (hb3.mono hlow.out))
  replace hr := hidden (hr.out.below hb3)
  have k00 := k0.out _ hlw.out
  rw [Nat.add_zero] at k00
  have hN3 := hidden (hN0.out _ hlw.out)
  clear hpv hb3 hP hK k1 hN0 k0
  go_wp2_with fail
  refine hN3.out.mono ?_
  rintro e w4 ⟨rfl, hb4⟩
  replace hr := hidden (hr.out.below hb4)
  replace hlw := hidden (hlw.out.trans (hb4.mono hlw.out.size))
  clear hN3 hb4 k00
  have hrl := hidden (show w.heap.size < w4.heap.size from hr.out.lt)
  have hfd := hidden (show FdAt (w4.alloc zFd25) w4.heap.size (paS ws (useL K) 0) from ⟨heap_alloc_new w4 zFd25⟩)
  replace hr := hidden (hr.out.below ((Below.refl w4.heap.size w4).alloc (Nat.le_refl _) zFd25))
  replace hlw := hidden (hlw.out.alloc hlw.out.size zFd25)
  go_upto_region 11 with (fail)
  generalize w4.alloc zFd25 = w5 at *
  generalize w4.heap.size = g at *
  have hm : ws.length - 2 = nl := by have := hn.out; have := hpl.out; omega
  have hwl := hidden (show ws.length = 2 + nl by have := hn.out; have := hpl.out; omega)
  rw [hm]
  clear hm hl hl0 hl1 hne hs hnc
  go_wp2_with fail
  refine (hP2.out _ hlw.out).mono ?_
  rintro e w6 ⟨pv, rfl, hpv, hb6⟩
  obtain ⟨ap2, np2, rfl⟩ := own_slice18 hpv
  replace hr := hidden (hr.out.below hb6)
  replace hfd := hidden (hfd.out.below hb6)
  replace hlw := hidden (hlw.out.trans (hb6.mono hlw.out.size))
  replace hpv := hidden hpv
  clear hb6 hP2 hlow hw1
  go_wp2_with fail
  go_loopw [51] (fun i wr => PaLoop ws (useL K) g w6 i wr) (fun i _ => nl - (intOf i).toNat)
  case atStart => exact ⟨0, Nat.zero_le _, rfl, hfd.out, fun j hj => by omega, Trd.refl _ _⟩
  case round =>
    obtain ⟨k, hk, rfl, hf, hj, ht⟩ := hrel
    replace hj := hidden hj
    have hbw := hidden (hlw.out.trans (ht.below (B := w.heap.size) (fun i hi => by have := hrl.out; omega) hlw.out.size))
    have hr1 := hidden (show OpAt wr w.heap.size zeO from ⟨(ht.block _ hr.out.lt (by have := hrl.out; omega)).trans hr.out.row⟩)
    by_cases hlt : k < nl
    · have hkL : k < (useL K).length := by have := hpl.out; omega
      obtain ⟨hp1, hp2⟩ := pl25_at hkL
      have hnx := hidden (fun p => paS_next ws (useL K) k p)
      have hrd : Reads .i64 wr (.slice ap2 nl np2) (plL25 K) := reads_of_own (own_trd25 hpv.out hfd.out ht)
      obtain ⟨bp, op, rfl, cp⟩ := hrd.cell k hlt
      rw [hp1] at cp
      generalize (useL K).getD k 0 = P at *
      have cw := wds_cell (hWb.out wr hbw.out) (2 + k) (by have := hwl.out; omega)
      rw [← Nat.add_assoc] at cw
      have hP0 : (0 : Int) ≤ (P : Int) := by omega
      have hP6 : (P : Int) < 6 := by omega
      have hkI : (k : Int) < (nl : Int) := by omega
      have hk5 : k ≤ 5 := by have := (use_len hK16).1; have := hpl.out; omega
      have hN1 := hidden (hN.out wr hbw.out ⟨(ws.getD (2 + k) []).toArray⟩)
      have e2 : nuO ((⟨(ws.getD (2 + k) []).toArray⟩ : ByteArray).data.toList) = paN ws k := rfl
      rw [e2] at hN1
      generalize ws.getD (2 + k) [] = wk at *
      have hbad := hidden (hat.out k hkL)
      have hgood := hidden (show (paN ws k).isSome = true → ∀ j, j < k + 1 → (paN ws j).isSome = true from fun h j hjk => by
        rcases Nat.lt_or_ge j k with h2 | h2
        · exact hj.out j h2
        · obtain rfl : j = k := by omega
          exact h)
      generalize paN ws k = q at *
      replace ht := hidden ht
      replace hf := hidden hf
      clear hrd hp1 e2
      cases q with
      | none =>
        have hfin := hidden (pa_ret (A := A) (a := A 18) (pa_nums hsh.out (hbad.out rfl)) (by decide) rfl)
        go_wp2_with fail
        refine hN1.out.mono ?_
        rintro e w7 ⟨rfl, hb7⟩
        have hf7 := hf.out.below hb7
        have q7 := hf7.cell P hp2
        have f7 := hf7.frozen P
        have hr7 := hidden (show OpAt (w7.setCell ⟨g, P, none⟩ (.int .i64 0)) w.heap.size zeO from ⟨(Below.heap_setCell _ _ _ _ (by have := hrl.out; simp; omega)).trans (hr1.out.below hb7).row⟩)
        have hlw7 := hidden ((hbw.out.trans (hb7.mono hbw.out.size)).setCell (p := ⟨g, P, none⟩) (by have := hrl.out; simp; omega) (.int .i64 0))
        have c7 := hidden (c17.out _ hlw7.out)
        clear hN1 hb7 hf7 cw cp hf hgood hbad hnx
        go_wp2_with fail
        generalize w7.setCell ⟨g, P, none⟩ (.int .i64 0) = w8 at *
        have k17 := c7.out
        replace hr := hr7
        replace hlw := hlw7
        clear q7 f7 c7 hr7 hlw7 hnl hpl hPO hx0d hsh hall hat hC hN hWb
        obtain ⟨d0, d1, d2, d3, d4, d5, d6, d7⟩ := hr.out.cells
        simp only [zeO] at d0 d1 d2 d3 d4 d5 d6 d7
        have f0 := hr.out.frozen 0
        have f1 := hr.out.frozen 1
        have f2 := hr.out.frozen 2
        have f3 := hr.out.frozen 3
        have f4 := hr.out.frozen 4
        have f5 := hr.out.frozen 5
        have f6 := hr.out.frozen 6
        have f7 := hr.out.frozen 7
        have k17b := fun u j => cell_aside (j := j) (u := u) k17 (hgl.out)
        go_wp2_with fail
        go_region
        go_wp2
        exact op_end rfl rfl rfl rfl (hr.out.put zeO).drew ⟨hfin.out, (below_putO hlw.out (Nat.le_refl _) _ _ _ _ _ _ _ _).drew⟩
      | some x =>
        replace hgood := hidden (hgood.out rfl)
        go_wp2_with fail
        refine hN1.out.mono ?_
        rintro e w7 ⟨rfl, hb7⟩
        have hf7 := hf.out.below hb7
        have q7 := hf7.cell P hp2
        have f7 := hf7.frozen P
        have hf8 := hidden (hf7.put (x := x) hp2 (fun p => hnx.out p))
        have ht8 := hidden ((ht.out.trans (Trd.of_below hb7 (Nat.le_refl _))).trans (Trd.setCell w7 ⟨g, P, none⟩ (.int .i64 x) rfl))
        clear hN1 hb7 hf7 cw cp hf hbad hnx
        go_wp2
        go_roundw
        case rel => exact ⟨k + 1, hkL, by go_num, hf8.out, hgood.out, ht8.out⟩
        case measure => simp [intOf]; omega
    · have hkn : k = nl := by have := hpl.out; omega
      have hkL : k = (useL K).length := by have := hpl.out; omega
      have hPO2 := hidden (show paO ws = mkO x0 (K : Int) (paS ws (useL K) k) by rw [hPO.out, hx0d.out, hkL])
      have hfin := hidden (pa_good (A := A) hsh.out (hall.out fun j hj2 => hj.out j (by omega)))
      rw [hPO2.out] at hfin
      have hC1 := hidden (hC.out wr hbw.out (paS ws (useL K) k) (fun i _ => by have := paS_bd ws (useL K) k i; omega))
      generalize paS ws (useL K) k = f at *
      generalize mkO x0 (K : Int) f = O at *
      generalize opR O = R at *
      generalize errOf A (opE O) = ev at *
      have q0 := hf.cell 0 (by decide)
      have q1 := hf.cell 1 (by decide)
      have q2 := hf.cell 2 (by decide)
      have q3 := hf.cell 3 (by decide)
      have q4 := hf.cell 4 (by decide)
      have q5 := hf.cell 5 (by decide)
      have hkI : ¬ (k : Int) < (nl : Int) := by omega
      clear hkn hkL hPO2 hPO hC hf ht hall hat hN hWb hnl hpl hsh hx0d
      go_wp2_with fail
      refine hC1.out.mono ?_
      rintro e w7 ⟨rfl, hb7⟩
      replace hr := hidden (hr1.out.below hb7)
      replace hlw := hidden (hbw.out.trans (hb7.mono hbw.out.size))
      clear q0 q1 q2 q3 q4 q5 hb7 hC1 hr1 hbw
      obtain ⟨d0, d1, d2, d3, d4, d5, d6, d7⟩ := hr.out.cells
      simp only [zeO] at d0 d1 d2 d3 d4 d5 d6 d7
      have f0 := hr.out.frozen 0
      have f1 := hr.out.frozen 1
      have f2 := hr.out.frozen 2
      have f3 := hr.out.frozen 3
      have f4 := hr.out.frozen 4
      have f5 := hr.out.frozen 5
      have f6 := hr.out.frozen 6
      have f7 := hr.out.frozen 7
      go_wp2
      exact op_end rfl rfl rfl rfl (hr.out.put R) ⟨hfin.out, below_putO hlw.out (Nat.le_refl _) _ _ _ _ _ _ _ _⟩
theorem parse_any25 (A : Nat → Addr) (v : Value) (ws : List (List UInt8)) (w : World) (hE : OpEnv A w) (hY : SynOn w) (hW : Wds w v ws) :
    Calls Tryz.prog 17 #[v] w (PaAt25 A ws w) := by
  by_cases hs : ws.length < 2
  · exact parse_few A v ws w hE hW hs
  · by_cases hk : paK ws = 0
    · exact parse_kind A v ws w hE hW (by omega) hk
    · by_cases hn : ws.length = 2 + (useL (paK ws)).length
      · by_cases hI : nuO (ws.getD 0 []) = none
        · exact parse_id A v ws w hE hY hW (by omega) hk hn hI
        · exact parse_rest A v ws w hE hY hW (by omega) hk hn hI
      · exact parse_len A v ws w hE hW (by omega) hk hn
end Go.Proofs.YtongpgnnhpbcpaaGreatDoor
