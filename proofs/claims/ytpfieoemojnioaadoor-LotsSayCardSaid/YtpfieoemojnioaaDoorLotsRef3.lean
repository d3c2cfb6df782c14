/-
  The document's own: Worth, Fits, Most.
-/
import Derived.Test.YtpfieoemojnioaaDoorLotsRef2
import Derived.Test.YtpfieoemojnioaaDoorLotsPbS
namespace Go.Proofs.YtpfieoemojnioaaDoor
open Go.RowKit
set_option linter.unusedVariables false

def RwRel1 (L : List Lt) (C t : List Int) (w0 : World) (s g : Value) (w : World) : Prop := ∃ k : Nat, k ≤ C.length ∧ g = .int .i64 (k : Int) ∧ s = .int .i64 (sumF (woF L C t) k) ∧ Below w0.heap.size w0 w
def RwRel2 (L : List Lt) (t : List Int) (g : Int) (w0 : World) (s i : Value) (w : World) : Prop := ∃ j : Nat, j ≤ L.length ∧ i = .int .i64 (j : Int) ∧ s = .int .i64 (gs L t g j) ∧ Below w0.heap.size w0 w
theorem gs_skip (L : List Lt) (t : List Int) (g : Int) (k : Nat) (h : (L.getD k ltZ).g ≠ g) : gs L t g (k + 1) = gs L t g k := by
  show gs L t g k + gsF L t g k = _
  unfold gsF
  rw [if_neg h, Int.add_zero]
set_option maxRecDepth 100000 in
set_option maxHeartbeats 12800000 in
theorem r18Worth_any (lv cv : Value) (L : List Lt) (C : List Int) (n : Int) (tv : Value) (t : List Int) (w : World) (h : PbR w lv cv L C) (hr : Reads .i64 w tv t) :
    Calls Tryd.prog 13 #[pbA lv cv n, tv] w fun e w' => e = .returned (.tuple #[.int .i64 (woV L C n t), .bool (goodB L C n t)]) ∧ Below w.heap.size w w' := by
  have hb0 := below_pb w pbTyR lv cv n
  have hM := hidden (r18Right_any lv cv L C n tv t _ (h.below hb0 (Nat.le_refl _)) (hr.below hb0 (Nat.le_refl _)))
  have hpb := pbAt_new w pbTyR lv cv n
  have hbx := hidden (fun W (hW : Below (w.alloc (pbO pbTyR lv cv n)).heap.size (w.alloc (pbO pbTyR lv cv n)) W) => hb0.trans (hW.mono hb0.size))
  have hp := hidden (fun W (hW : Below (w.alloc (pbO pbTyR lv cv n)).heap.size (w.alloc (pbO pbTyR lv cv n)) W) => (hpb.below hW (Nat.le_refl _)).cells)
  obtain ⟨la, lc, rfl⟩ := row_slice h.lots
  obtain ⟨ca, cc, rfl⟩ := reads_slice h.caps
  obtain ⟨ta, tc, rfl⟩ := reads_slice hr
  have hx := hidden (fun k hk W (h2 : Below w.heap.size w W) => rowLt_at (h.lots.below ltV_len h2 (Nat.le_refl _)) k hk)
  have ht := hidden (fun k hk W (h2 : Below w.heap.size w W) => (hr.below h2 (Nat.le_refl _)).cell k hk)
  have hy := hidden (fun k hk W (h2 : Below w.heap.size w W) => (h.caps.below h2 (Nat.le_refl _)).cell k hk)
  have hlen := h.len
  clear h hr hb0 hpb
  unfold woV
  cases hB : goodB L C n t
  · rw [hB] at hM
    rw [if_neg (by decide)]
    clear hB hx ht hy
    go_enter Tryd.func13, Tryd.ntmps13
    go_wp2_with fail
    (with_reducible refine hM.out.mono ?_)
    rintro e w1 ⟨rfl, hb1⟩
    have hb2 := hidden (hbx.out _ hb1)
    clear hM hb1 hp
    go_wp2
    go_ret2
    exact ⟨rfl, hb2.out⟩
  · rw [hB] at hM
    rw [if_pos rfl]
    obtain ⟨hok, htk⟩ := goodB_iff.1 hB
    have hl := hidden htk.1
    have hlb := hidden (fun k hk => hok.lot (k := k) hk)
    have hcb := hidden (fun k hk => hok.cap (k := k) hk)
    have htb := hidden (fun k hk => htk.2 k hk)
    have hgb := hidden (fun g k hk => gs_bd hok htk g (k := k) hk)
    have hwb := hidden (fun k hk => woS_bd hok htk (k := k) hk)
    have hwf := hidden (fun j hj => woF_bd hok htk (j := j) hj)
    have hC8 : C.length ≤ 8 := hok.1.2.2
    clear hB hok htk
    go_enter Tryd.func13, Tryd.ntmps13
    go_wp2_with fail
    generalize w.alloc (pbO pbTyR (.slice la L.length lc) (.slice ca C.length cc) n) = wP at *
    (with_reducible refine hM.out.mono ?_)
    rintro e w1 ⟨rfl, hb1⟩
    replace hb1 := hidden hb1
    clear hM
    go_wp2_with fail
    go_loopw [6, 7] (fun s g wr => RwRel1 L C t wP s g wr) (fun _ g _ => C.length - (RowKit.intOf g).toNat)
    case atStart => exact ⟨0, Nat.zero_le _, rfl, rfl, hb1.out⟩
    case round =>
      clear hb1
      obtain ⟨k, hk, rfl, rfl, hb3⟩ := hrel
      obtain ⟨c0, c1, c2⟩ := hp.out _ hb3
      by_cases hlt : k < C.length
      · have hkI : (k : Int) < (C.length : Int) := by omega
        have hw1 := hwb.out k hk
        have hw2 := hwf.out k hlt
        have hnx := hidden (show sumF (woF L C t) (k + 1) = sumF (woF L C t) k + woF L C t k from rfl)
        have hcap := hcb.out k hlt
        have hways := hidden (woF_ways L C t k hcap.1)
        have hg1 := hgb.out (k : Int) L.length (Nat.le_refl _)
        have hcap1 := hcap.1
        have hcap2 := hcap.2
        have hws : IntKind.i64.wrap (sumF (woF L C t) k + woF L C t k) = sumF (woF L C t) k + woF L C t k := by rw [IntKind.wrap_i64]; omega
        generalize woF L C t k = f at *
        generalize sumF (woF L C t) k = S at *
        replace hb3 := hidden hb3
        clear hwb hwf hcap
        go_wp2_with fail
        go_loopw [8, 9] (fun s i wr => RwRel2 L t (k : Int) wP s i wr) (fun _ i _ => L.length - (RowKit.intOf i).toNat)
        case atStart => exact ⟨0, Nat.zero_le _, rfl, rfl, hb3.out⟩
        case round =>
          clear hb3 c0 c1 c2
          obtain ⟨j, hj, rfl, rfl, hb4⟩ := hrel
          obtain ⟨c0, c1, c2⟩ := hp.out _ hb4
          by_cases hjl : j < L.length
          · obtain ⟨b, o, rfl, q0, q1, q2, q3⟩ := hx.out j hjl _ (hbx.out _ hb4)
            have hjl2 : j < t.length := by rw [hl.out]; exact hjl
            have hlI : (j : Int) < (L.length : Int) := by omega
            have hlI2 : (j : Int) < (t.length : Int) := by omega
            have hj0 : (0 : Int) ≤ (j : Int) := by omega
            obtain ⟨tb, to, rfl, ct⟩ := ht.out j hjl2 _ (hbx.out _ hb4)
            have hbd := hidden (fun m => below_drewN (m := m) hb4)
            have hlo := hlb.out j hjl
            have hto := htb.out j hjl
            have g1 := hgb.out (k : Int) j hj
            have g2 := hgb.out (k : Int) (j + 1) hjl
            have hlo1 := hlo.1
            have hlo2 := hlo.2.1
            clear hways hnx hws hg1 hcap1 hcap2 hw1 hw2 hgb hlb htb hcb hx ht hy
            by_cases hg : (L.getD j ltZ).g = (k : Int)
            · have hst := hidden (gs_step L t (k : Int) j hg)
              rw [hst.out] at g2
              have hpr := prod_bd (a := t.getD j 0) (A := 1000) (b := (L.getD j ltZ).v) (B := 1000000000) hto.1 (by omega) hlo2.1 hlo2.2
              obtain ⟨m, hm⟩ : ∃ m, m = t.getD j 0 * (L.getD j ltZ).v := ⟨_, rfl⟩
              rw [← hm] at hpr g2 hst
              have hwm : IntKind.i64.wrap (t.getD j 0 * (L.getD j ltZ).v) = m := by rw [← hm, IntKind.wrap_i64]; omega
              have hws : IntKind.i64.wrap (gs L t (k : Int) j + m) = gs L t (k : Int) j + m := by rw [IntKind.wrap_i64]; omega
              have hgB : ((L.getD j ltZ).g == (k : Int)) = true := by rw [beq_iff_eq]; exact hg
              clear hm hlo hto hlo1 hlo2 hg
              generalize gs L t (k : Int) j = G at *
              generalize t.getD j 0 = x at *
              generalize L.getD j ltZ = y at *
              obtain ⟨u, v, c, gg⟩ := y
              simp only at q0 q1 q2 q3 hwm hpr hgB
              replace hb4 := hidden hb4
              go_wp2_with fail
              go_quiet (fail)
              go_wp2
              go_roundw
              case rel => exact ⟨j + 1, hjl, by go_num, by rw [hst.out], hbd.out _⟩
              case measure => simp [RowKit.intOf]; omega
            · have hst := hidden (gs_skip L t (k : Int) j hg)
              have hgB : ((L.getD j ltZ).g == (k : Int)) = false := by rw [beq_eq_false_iff_ne]; exact hg
              clear hlo hto hlo1 hlo2 hg
              generalize gs L t (k : Int) j = G at *
              generalize t.getD j 0 = x at *
              generalize L.getD j ltZ = y at *
              obtain ⟨u, v, c, gg⟩ := y
              simp only at q0 q1 q2 q3 hgB
              replace hb4 := hidden hb4
              go_wp2
              go_roundw
              case rel => exact ⟨j + 1, hjl, by go_num, by rw [hst.out], hb4.out⟩
              case measure => simp [RowKit.intOf]; omega
          · obtain rfl : j = L.length := by omega
            have hlI : ¬ (L.length : Int) < (t.length : Int) := by rw [hl.out]; omega
            obtain ⟨bc, oc, rfl, cc0⟩ := hy.out k hlt _ (hbx.out _ hb4)
            replace hb4 := hidden hb4
            have hk0 : (0 : Int) ≤ (k : Int) := by omega
            clear hlb htb hgb hcb hx ht hy
            generalize gs L t (k : Int) L.length = G at *
            generalize C.getD k 0 = c at *
            rcases hways.out with ⟨z1, z2⟩ | ⟨z1, z2, z3⟩ | ⟨z1, z2, z3⟩
            · have d1 : decide (0 < c) = false := decide_eq_false (by omega)
              subst z2
              clear hways z1
              go_wp2
              go_roundw
              case rel => exact ⟨k + 1, hlt, by go_num, by rw [hnx.out], hb4.out⟩
              case measure => simp [RowKit.intOf]; omega
            · have d1 : decide (0 < c) = true := decide_eq_true (by omega)
              have d2 : decide (c < G) = false := decide_eq_false (by omega)
              subst z3
              clear hways z1 z2
              go_wp2
              go_roundw
              case rel => exact ⟨k + 1, hlt, by go_num, by rw [hnx.out], hb4.out⟩
              case measure => simp [RowKit.intOf]; omega
            · have d1 : decide (0 < c) = true := decide_eq_true (by omega)
              have d2 : decide (c < G) = true := decide_eq_true (by omega)
              subst z3
              clear hways z1 z2
              go_wp2
              go_roundw
              case rel => exact ⟨k + 1, hlt, by go_num, by rw [hnx.out], hb4.out⟩
              case measure => simp [RowKit.intOf]; omega
      · obtain rfl : k = C.length := by omega
        replace hb3 := hidden (hbx.out _ hb3)
        go_wp2
        go_ret2
        exact ⟨rfl, hb3.out⟩
set_option maxRecDepth 100000 in
set_option maxHeartbeats 6400000 in
theorem r18Fits_any (lv cv : Value) (L : List Lt) (C : List Int) (n : Int) (tv : Value) (t : List Int) (w : World) (h : PbR w lv cv L C) (hr : Reads .i64 w tv t) :
    Calls Tryd.prog 19 #[pbA lv cv n, tv] w fun e w' => e = .returned (.bool (fiB L C n t)) ∧ Below w.heap.size w w' := by
  have hb0 := below_pb w pbTyR lv cv n
  have hpb := pbAt_new w pbTyR lv cv n
  have hp := hidden (fun W (hW : Below (w.alloc (pbO pbTyR lv cv n)).heap.size (w.alloc (pbO pbTyR lv cv n)) W) => (hpb.below hW (Nat.le_refl _)).cells)
  have hM := hidden (r18Worth_any lv cv L C n tv t _ (h.below hb0 (Nat.le_refl _)) (hr.below hb0 (Nat.le_refl _)))
  have hb := hidden hb0
  obtain ⟨la, lc, rfl⟩ := row_slice h.lots
  obtain ⟨ca, cc, rfl⟩ := reads_slice h.caps
  obtain ⟨ta, tc, rfl⟩ := reads_slice hr
  clear h hr hb0 hpb
  unfold fiB
  generalize goodB L C n t = B at *
  generalize woV L C n t = x at *
  cases B
  all_goals
    go_enter Tryd.func19, Tryd.ntmps19
    go_wp2_with fail
    (with_reducible refine hM.out.mono ?_)
    rintro e w1 ⟨rfl, hb1⟩
    obtain ⟨c0, c1, c2⟩ := hp.out _ hb1
    have hb2 := hidden (hb.out.trans (hb1.mono hb.out.size))
    clear hM hb1 hp
    go_wp2
    go_ret
    exact ⟨ret_bool (by simp), hb2.out⟩
set_option maxRecDepth 100000 in
set_option maxHeartbeats 6400000 in
theorem r18Most_any (lv cv : Value) (L : List Lt) (C : List Int) (n : Int) (w : World) (h : PbR w lv cv L C) (hl : L.length ≤ 1000) :
    Calls Tryd.prog 21 #[pbA lv cv n] w fun e w' => e = .returned (.int .i64 (moV L C n)) ∧ Below w.heap.size w w' := by
  have hb0 := below_pb w pbTyR lv cv n
  have hpb := pbAt_new w pbTyR lv cv n
  have hbx := hidden (fun W (hW : Below (w.alloc (pbO pbTyR lv cv n)).heap.size (w.alloc (pbO pbTyR lv cv n)) W) => hb0.trans (hW.mono hb0.size))
  have hs0 := hidden (show PbS (w.alloc (pbO pbTyR lv cv n)) w.heap.size lv cv n (w.alloc (pbO pbTyR lv cv n)) from ⟨hpb.cells.1, hpb.cells.2.1, hpb.cells.2.2, Below.refl _ _⟩)
  have hFu := hidden (fun W (hW : Below (w.alloc (pbO pbTyR lv cv n)).heap.size (w.alloc (pbO pbTyR lv cv n)) W) => r18Full_any lv cv L C n W (h.below (hbx.out W hW) (Nat.le_refl _)) hl)
  have hWo := hidden (fun W (hW : Below (w.alloc (pbO pbTyR lv cv n)).heap.size (w.alloc (pbO pbTyR lv cv n)) W) tv hr => r18Worth_any lv cv L C n tv (full L) W (h.below (hbx.out W hW) (Nat.le_refl _)) hr)
  obtain ⟨la, lc, rfl⟩ := row_slice h.lots
  obtain ⟨ca, cc, rfl⟩ := reads_slice h.caps
  clear h hb0 hpb
  unfold moV
  generalize woV L C n (full L) = mv at *
  generalize goodB L C n (full L) = B at *
  go_enter Tryd.func21, Tryd.ntmps21
  go_wp2_with fail
  generalize w.alloc (pbO pbTyR (.slice la L.length lc) (.slice ca C.length cc) n) = wP at *
  go_region_held3 (fun W => W.cell? ⟨w.heap.size, 0, none⟩ = some (.slice la L.length lc) ∧ W.cell? ⟨w.heap.size, 1, none⟩ = some (.slice ca C.length cc) ∧ W.cell? ⟨w.heap.size, 2, none⟩ = some (.int .i64 n) ∧ Below wP.heap.size wP W)
    ((first | exact pbS_drew hs0.out | assumption | exact pbS_next (by assumption) (by assumption)))
    ((first
      | (go_at_call 38; (with_reducible refine (hFu.out _ (by first | exact hs0.out.2.2.2.drew | exact And.right (And.right (And.right (by assumption))))).mono ?_); rintro r w5 ⟨v5, rfl, hr5, hb5⟩)
      | (go_at_call 13; (with_reducible refine (hWo.out _ (And.right (And.right (And.right (by assumption)))) _ hr5).mono ?_); rintro r w6 ⟨rfl, hb6⟩)))
  all_goals
    rename_i hh
    have hend := hidden (hbx.out _ hh.2.2.2)
    clear hh hs0
    go_wp2
    go_ret
    exact ⟨rfl, hend.out⟩
end Go.Proofs.YtpfieoemojnioaaDoor
