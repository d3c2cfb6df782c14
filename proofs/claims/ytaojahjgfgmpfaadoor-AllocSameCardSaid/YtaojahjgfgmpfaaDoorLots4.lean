/-
  worth: by groups.
-/
import Derived.Test.YtaojahjgfgmpfaaDoorLots3
namespace Go.Proofs.YtaojahjgfgmpfaaDoor
open Go.RowKit
set_option linter.unusedVariables false

/-- a row of numbers of 64 bits of whatever type. -/
def NumAt (T : TypeId) (w : World) (g : Nat) (l : List Int) : Prop := w.heap[g]? = some (.cells (l.map (Value.int .i64)).toArray T (0, 0))
theorem NumAt.cell {T : TypeId} {w : World} {g : Nat} {l : List Int} (h : NumAt T w g l) {i : Nat} (hi : i < l.length) : w.cell? ⟨g, i, none⟩ = some (.int .i64 (l.getD i 0)) := by
  rw [cell_of_row _ _ _ _ _ _ h, List.getElem?_toArray, List.getElem?_map, List.getD_eq_getElem?_getD, List.getElem?_eq_getElem hi]
  rfl
theorem NumAt.frozen {T : TypeId} {w : World} {g : Nat} {l : List Int} (h : NumAt T w g l) (i : Nat) : w.frozen? ⟨g, i, none⟩ = false := by
  have := h
  unfold NumAt at this
  simp [World.frozen?, this]
theorem NumAt.set {T : TypeId} {w : World} {g : Nat} {l : List Int} (h : NumAt T w g l) (i : Nat) (x : Int) : NumAt T (w.setCell ⟨g, i, none⟩ (.int .i64 x)) g (l.set i x) := by
  unfold NumAt
  rw [heap_setCell_row h]
  simp
theorem NumAt.lt {T : TypeId} {w : World} {g : Nat} {l : List Int} (h : NumAt T w g l) : g < w.heap.size := (Array.getElem?_eq_some_iff.1 h).1
theorem NumAt.below {T : TypeId} {w w' : World} {g : Nat} {l : List Int} {B : Nat} (h : NumAt T w g l) (hb : Below B w w') (hB : w.heap.size ≤ B) : NumAt T w' g l := by
  have hl := h.lt
  unfold NumAt at h ⊢
  rw [hb.block g (by omega)]
  exact h
theorem NumAt.drew {T : TypeId} {w : World} {g : Nat} {l : List Int} (h : NumAt T w g l) : NumAt T w.drew g l := h
theorem NumAt.reads {T : TypeId} {w : World} {g : Nat} {l : List Int} {n : Nat} (h : NumAt T w g l) (hn : l.length = n) (hm : n ≤ 1000000) : Reads .i64 w (.slice (some ⟨g, 0, none⟩) n n) l := reads_block h hn hm
theorem PbAt.put {w : World} {g b : Nat} {t : TypeId} {lv cv : Value} {n : Int} (h : PbAt w g t lv cv n) (hne : g ≠ b) (o : Nat) (v : Value) : PbAt (w.setCell ⟨b, o, none⟩ v) g t lv cv n := ⟨by rw [(Trd.setCell (S := (· = b)) w ⟨b, o, none⟩ v rfl).block g h.lt hne]; exact h.row⟩
def grp (L : List Lt) (t : List Int) (k : Nat) : List Int := (List.range 8).map fun j : Nat => gs L t (j : Int) k
theorem grp_len (L : List Lt) (t : List Int) (k : Nat) : (grp L t k).length = 8 := by simp [grp]
theorem grp_get (L : List Lt) (t : List Int) (k : Nat) {j : Nat} (hj : j < 8) : (grp L t k)[j]? = some (gs L t (j : Int) k) := by
  unfold grp
  rw [List.getElem?_map, List.getElem?_range hj]
  rfl
theorem grp_at (L : List Lt) (t : List Int) (k : Nat) {j : Nat} (hj : j < 8) : (grp L t k).getD j 0 = gs L t (j : Int) k := by rw [List.getD_eq_getElem?_getD, grp_get L t k hj]; rfl
theorem grp_start (L : List Lt) (t : List Int) : grp L t 0 = [0, 0, 0, 0, 0, 0, 0, 0] := rfl
theorem grp_next (L : List Lt) (t : List Int) (k g : Nat) (hg : g < 8) (hx : (L.getD k ltZ).g = (g : Int)) : (grp L t k).set g (gs L t (g : Int) k + t.getD k 0 * (L.getD k ltZ).v) = grp L t (k + 1) := by
  apply List.ext_getElem?
  intro j
  by_cases hj : j < 8
  · rw [grp_get L t (k + 1) hj]
    by_cases e : g = j
    · subst e
      rw [List.getElem?_set_self (by rw [grp_len]; exact hg)]
      show some _ = some (gs L t (g : Int) k + gsF L t (g : Int) k)
      unfold gsF
      rw [if_pos hx]
    · rw [List.getElem?_set_ne e, grp_get L t k hj]
      show some _ = some (gs L t (j : Int) k + gsF L t (j : Int) k)
      unfold gsF
      rw [if_neg (by omega), Int.add_zero]
  · rw [List.getElem?_eq_none (by rw [List.length_set, grp_len]; omega), List.getElem?_eq_none (by rw [grp_len]; omega)]
abbrev arTy : TypeId := 61
def WoRel1 (L : List Lt) (t : List Int) (gb : Nat) (p : Nat) (lv cv : Value) (n : Int) (w0 : World) (i : Value) (w : World) : Prop :=
  ∃ k : Nat, k ≤ L.length ∧ i = .int .i64 (k : Int) ∧ NumAt arTy w gb (grp L t k) ∧ PbAt w p pbTy lv cv n ∧ Below w0.heap.size w0 w
def WoRel2 (L : List Lt) (C t : List Int) (w0 : World) (s i : Value) (w : World) : Prop := ∃ k : Nat, k ≤ C.length ∧ i = .int .i64 (k : Int) ∧ s = .int .i64 (sumF (woF L C t) k) ∧ w0 = w
theorem gs_step (L : List Lt) (t : List Int) (g : Int) (k : Nat) (h : (L.getD k ltZ).g = g) : gs L t g (k + 1) = gs L t g k + t.getD k 0 * (L.getD k ltZ).v := by
  show gs L t g k + gsF L t g k = _
  unfold gsF
  rw [if_pos h]
theorem woF_ways (L : List Lt) (C t : List Int) (j : Nat) (hc : 0 ≤ C.getD j 0) : (C.getD j 0 = 0 ∧ woF L C t j = gs L t (j : Int) L.length) ∨ (C.getD j 0 ≠ 0 ∧ gs L t (j : Int) L.length ≤ C.getD j 0 ∧ woF L C t j = gs L t (j : Int) L.length) ∨ (C.getD j 0 ≠ 0 ∧ ¬ gs L t (j : Int) L.length ≤ C.getD j 0 ∧ woF L C t j = C.getD j 0) := by
  unfold woF capd
  split <;> omega
set_option maxRecDepth 100000 in
set_option maxHeartbeats 6400000 in
theorem ltWorth_any (lv cv : Value) (L : List Lt) (C : List Int) (n : Int) (tv : Value) (t : List Int) (w : World) (h : PbR w lv cv L C) (hr : Reads .i64 w tv t) (hok : OkP L C n) (htk : TkOk L t) :
    Calls Tryd.prog 48 #[pbA lv cv n, tv] w fun e w' => e = .returned (.int .i64 (wo L C t)) ∧ Below w.heap.size w w' := by
  have hb0 := below_pb w pbTy lv cv n
  have hpb := pbAt_new w pbTy lv cv n
  have hp := hidden (fun W (hW : Below (w.alloc (pbO pbTy lv cv n)).heap.size (w.alloc (pbO pbTy lv cv n)) W) => (hpb.below hW (Nat.le_refl _)))
  obtain ⟨la, lc, rfl⟩ := row_slice h.lots
  obtain ⟨ca, cc, rfl⟩ := reads_slice h.caps
  obtain ⟨ta, tc, rfl⟩ := reads_slice hr
  obtain ⟨c0, c1, c2⟩ := ((hpb.below ((Below.refl _ _).alloc (Nat.le_refl _) (.cells #[.int .i64 0, .int .i64 0, .int .i64 0, .int .i64 0, .int .i64 0, .int .i64 0, .int .i64 0, .int .i64 0] arTy)) (Nat.le_refl _))).cells
  have hx := hidden (fun k hk W (h2 : Below w.heap.size w W) => rowLt_at (h.lots.below ltV_len h2 (Nat.le_refl _)) k hk)
  have ht := hidden (fun k hk W (h2 : Below w.heap.size w W) => (hr.below h2 (Nat.le_refl _)).cell k hk)
  have hc := hidden (fun k hk W (h2 : Below w.heap.size w W) => (h.caps.below h2 (Nat.le_refl _)).cell k hk)
  have hlen := h.len
  have hb := hidden hb0
  have hl := hidden htk.1
  have hlb := hidden (fun k hk => hok.lot (k := k) hk)
  have hcb := hidden (fun k hk => hok.cap (k := k) hk)
  have htb := hidden (fun k hk => htk.2 k hk)
  have hgb := hidden (fun g k hk => gs_bd hok htk g (k := k) hk)
  have hwb := hidden (fun k hk => woS_bd hok htk (k := k) hk)
  have hwf := hidden (fun j hj => woF_bd hok htk (j := j) hj)
  have hC8 : C.length ≤ 8 := hok.1.2.2
  clear h hr hb0 hpb hok htk
  go_enter Tryd.func48, Tryd.ntmps48
  go_wp2_with fail
  have hst : NumAt arTy ((w.alloc (pbO pbTy (.slice la L.length lc) (.slice ca C.length cc) n)).alloc (.cells #[.int .i64 0, .int .i64 0, .int .i64 0, .int .i64 0, .int .i64 0, .int .i64 0, .int .i64 0, .int .i64 0] arTy)) (w.heap.size + 1) (grp L t 0) := by
    rw [grp_start]
    have := heap_alloc_new (w.alloc (pbO pbTy (.slice la L.length lc) (.slice ca C.length cc) n)) (.cells #[.int .i64 0, .int .i64 0, .int .i64 0, .int .i64 0, .int .i64 0, .int .i64 0, .int .i64 0, .int .i64 0] arTy)
    simpa [NumAt] using this
  have hpst := hp.out _ ((Below.refl _ _).alloc (Nat.le_refl _) (.cells #[.int .i64 0, .int .i64 0, .int .i64 0, .int .i64 0, .int .i64 0, .int .i64 0, .int .i64 0, .int .i64 0] arTy))
  have hbst := hidden (hb.out.alloc (by simp) (.cells #[.int .i64 0, .int .i64 0, .int .i64 0, .int .i64 0, .int .i64 0, .int .i64 0, .int .i64 0, .int .i64 0] arTy))
  replace hst := hidden hst
  replace hpst := hidden hpst
  go_loopw [14] (fun i wr => WoRel1 L t (w.heap.size + 1) w.heap.size (.slice la L.length lc) (.slice ca C.length cc) n w i wr) (fun i _ => L.length - (RowKit.intOf i).toNat)
  case atStart => exact ⟨0, Nat.zero_le _, rfl, hst.out, hpst.out, hbst.out⟩
  case round =>
    clear hst hpst hbst c0 c1 c2 hp hb
    obtain ⟨k, hk, rfl, hA, hP, hb3⟩ := hrel
    by_cases hlt : k < L.length
    · obtain ⟨b, o, rfl, q0, q1, q2, q3⟩ := hx.out k hlt _ hb3
      have hlt2 : k < t.length := by rw [hl.out]; exact hlt
      have hlI : (k : Int) < (L.length : Int) := by omega
      have hlI2 : (k : Int) < (t.length : Int) := by omega
      have hlo := hlb.out k hlt
      have hto := htb.out k hlt
      obtain ⟨g, hg⟩ : ∃ g : Nat, (L.getD k ltZ).g = (g : Int) := ⟨(L.getD k ltZ).g.toNat, by unfold ltOk at hlo; omega⟩
      have hg8 : g < 8 := by unfold ltOk at hlo; omega
      have hnx := hidden (grp_next L t k g hg8 hg)
      have hst := hidden (gs_step L t (g : Int) k hg)
      have hg1 := hgb.out (g : Int) k hk
      have hg2 := hgb.out (g : Int) (k + 1) hlt
      rw [hst.out] at hg2
      have hbl := hidden (hb3.trans ((below_lt wr (L.getD k ltZ)).mono hb3.size))
      obtain ⟨tb, tof, rfl, ct⟩ := ht.out k hlt2 _ hbl.out
      have hA2 := hA.below (below_lt wr (L.getD k ltZ)) (Nat.le_refl _)
      have hP2 := hidden (hP.below (below_lt wr (L.getD k ltZ)) (Nat.le_refl _))
      have cg := hA2.cell (i := g) (by rw [grp_len]; exact hg8)
      rw [grp_at L t k hg8] at cg
      have fg := hA2.frozen g
      have hA3 := hidden (hA2.set g (gs L t (g : Int) k + t.getD k 0 * (L.getD k ltZ).v))
      rw [hnx.out] at hA3
      have hlo2 := hlo.2.1
      have hlo1 := hlo.1
      have hpr := prod_bd (a := t.getD k 0) (A := 1000) (b := (L.getD k ltZ).v) (B := 1000000000) hto.1 (by omega) hlo2.1 hlo2.2
      obtain ⟨m, hm⟩ : ∃ m, m = t.getD k 0 * (L.getD k ltZ).v := ⟨_, rfl⟩
      rw [← hm] at hpr hg2 hA3
      have hwm : IntKind.i64.wrap (t.getD k 0 * (L.getD k ltZ).v) = m := by rw [← hm, IntKind.wrap_i64]; omega
      have hws : IntKind.i64.wrap (gs L t (g : Int) k + m) = gs L t (g : Int) k + m := by rw [IntKind.wrap_i64]; omega
      have hgw : ¬ tb = w.heap.size + 1 ∨ True := .inr trivial
      clear hnx hst hgb hlo hto hA hA2 hP hx ht hlo1 hlo2 hgw hc hcb hlb htb hwb hwf hm
      generalize gs L t (g : Int) k = G at *
      generalize t.getD k 0 = x at *
      generalize L.getD k ltZ = y at *
      obtain ⟨u, v, c, gg⟩ := y
      simp only at q0 q1 q2 q3 hg hwm hpr
      subst hg
      have hg8I : (g : Int) < 8 := by omega
      replace hb3 := hidden hb3
      have hbn := hidden ((hbl.out.setCell (show w.heap.size ≤ w.heap.size + 1 from Nat.le_succ _) (.int .i64 (G + m))).drew : Below w.heap.size w (((wr.alloc (ltO ⟨u, v, c, (g : Int)⟩)).setCell ⟨w.heap.size + 1, g, none⟩ (.int .i64 (G + m))).drew))
      go_wp2_with fail
      go_region
      all_goals
        go_wp2
        go_roundw
        case rel => exact ⟨k + 1, hlt, by go_num, hA3.out, ⟨(hP2.out.put (b := w.heap.size + 1) (by omega) g (.int .i64 (G + m))).row⟩, hbn.out⟩
        case measure => simp [RowKit.intOf]; omega
    · obtain rfl : k = L.length := by omega
      obtain ⟨wu, rfl⟩ : ∃ w3, w3 = wr := ⟨_, rfl⟩
      obtain ⟨c0, c1, c2⟩ := hP.cells
      have hcx := hidden (fun k hk => hc.out k hk wu hb3)
      have hb4 := hidden hb3
      clear hP hb3 hx ht hlb htb hc
      have hA2 := hidden hA
      clear hA
      go_wp2_with fail
      go_loopw [8, 36] (fun s i wr => WoRel2 L C t wu s i wr) (fun _ i _ => C.length - (RowKit.intOf i).toNat)
      case atStart => exact ⟨0, Nat.zero_le _, rfl, rfl, rfl⟩
      case round =>
        clear c0 c1 c2
        obtain ⟨k, hk, rfl, rfl, rfl⟩ := hrel
        by_cases hlt : k < C.length
        · obtain ⟨b, o, rfl, q0⟩ := hcx.out k hlt
          have hlI : (k : Int) < (C.length : Int) := by omega
          have hk8 : (k : Int) < 8 := by omega
          have cg := hA2.out.cell (i := k) (by rw [grp_len]; omega)
          rw [grp_at L t L.length (by omega)] at cg
          have hcap := hcb.out k hlt
          have hg1 := hgb.out (k : Int) L.length (Nat.le_refl _)
          have hw1 := hwb.out k hk
          have hw2 := hwf.out k hlt
          have hways := woF_ways L C t k hcap.1
          have hnx := hidden (show sumF (woF L C t) (k + 1) = sumF (woF L C t) k + woF L C t k from rfl)
          have hcap2 := hcap.2
          have hcap1 := hcap.1
          clear hcap hcb hgb hwb hwf hcx hA2
          generalize gs L t (k : Int) L.length = G at *
          generalize C.getD k 0 = c at *
          generalize woF L C t k = f at *
          generalize sumF (woF L C t) k = S at *
          have hws : IntKind.i64.wrap (S + f) = S + f := by rw [IntKind.wrap_i64]; omega
          rcases hways with ⟨z1, z2⟩ | ⟨z1, z2, z3⟩ | ⟨z1, z2, z3⟩
          · subst z1
            subst z2
            go_wp2
            all_goals
              go_roundw
              case rel => exact ⟨k + 1, hlt, by go_num, by rw [hnx.out], rfl⟩
              case measure => simp [RowKit.intOf]; omega
          · have hz : (c == 0) = false := by rw [beq_eq_false_iff_ne]; exact z1
            subst z3
            go_wp2
            all_goals
              go_roundw
              case rel => exact ⟨k + 1, hlt, by go_num, by rw [hnx.out], rfl⟩
              case measure => simp [RowKit.intOf]; omega
          · have hz : (c == 0) = false := by rw [beq_eq_false_iff_ne]; exact z1
            subst z3
            go_wp2
            all_goals
              go_roundw
              case rel => exact ⟨k + 1, hlt, by go_num, by rw [hnx.out], rfl⟩
              case measure => simp [RowKit.intOf]; omega
        · obtain rfl : k = C.length := by omega
          go_wp2
          go_ret
          exact ⟨rfl, hb4.out⟩
end Go.Proofs.YtaojahjgfgmpfaaDoor
