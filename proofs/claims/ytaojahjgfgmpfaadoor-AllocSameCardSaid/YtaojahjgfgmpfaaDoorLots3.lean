/-
  mayTake; worth; Worth, Cost, Fits, Most.
-/
import Derived.Test.YtaojahjgfgmpfaaDoorLots2
import Derived.Deep.RegionHeld3
namespace Go.Proofs.YtaojahjgfgmpfaaDoor
open Go.RowKit
set_option linter.unusedVariables false

theorem ltBox {w W : World} {x : Lt} (hb : Below (w.alloc (ltO x)).heap.size (w.alloc (ltO x)) W) : LotAt W w.heap.size 0 x := by
  have h : W.heap[w.heap.size]? = some (ltO x) := (hb.block _ (by simp)).trans (heap_alloc_new w _)
  refine ⟨?_, ?_, ?_, ?_⟩ <;> (rw [cell_of_row _ _ _ _ _ _ h]; rfl)
theorem errOf_103 (A : Nat → Addr) : errOf A 103 = errAt (A 2) := rfl
theorem errOf_105 (A : Nat → Addr) : errOf A 105 = errAt (A 4) := rfl
def tkPart (L : List Lt) (t : List Int) (k : Nat) : Prop := ∀ j, j < k → 0 ≤ t.getD j 0 ∧ t.getD j 0 ≤ (L.getD j ltZ).u
theorem tkPart_next {L : List Lt} {t : List Int} {k : Nat} (h : tkPart L t k) (hk : ouB (t.getD k 0) (L.getD k ltZ).u = false) : tkPart L t (k + 1) := fun j hj => by
  by_cases e : j = k
  · subst e
    unfold ouB at hk
    rw [decide_eq_false_iff_not] at hk
    omega
  · exact h j (by omega)
theorem good_out {L : List Lt} {C : List Int} {n : Int} {t : List Int} {k : Nat} (hl : k < L.length) (hk : ouB (t.getD k 0) (L.getD k ltZ).u = true) : goodB L C n t = false := goodB_no fun h => by
  have := h.2.2 k hl
  unfold ouB at hk
  rw [decide_eq_true_iff] at hk
  omega
abbrev MtS (w : World) (b o g : Nat) (x u : Int) (W : World) : Prop := W.cell? ⟨b, o, none⟩ = some (.int .i64 x) ∧ W.cell? ⟨g, 0, none⟩ = some (.int .i64 u) ∧ Below w.heap.size w W
theorem mtS_drew {w W : World} {b o g : Nat} {x u : Int} (h : MtS w b o g x u W) : MtS w b o g x u W.drew := ⟨h.1, h.2.1, h.2.2.drew⟩
def MtRel (L : List Lt) (t : List Int) (w0 : World) (i : Value) (w : World) : Prop := ∃ k : Nat, k ≤ L.length ∧ i = .int .i64 (k : Int) ∧ tkPart L t k ∧ Below w0.heap.size w0 w
set_option maxRecDepth 100000 in
set_option maxHeartbeats 6400000 in
theorem mayTake_any (A : Nat → Addr) (lv cv : Value) (L : List Lt) (C : List Int) (n : Int) (tv : Value) (t : List Int) (w : World) (h : PbR w lv cv L C) (hr : Reads .i64 w tv t) (hE : ErrsOn [2, 4] w A) :
    Calls Tryd.prog 42 #[pbA lv cv n, tv] w fun e w' => e = .returned (.bool (goodB L C n t)) ∧ Below w.heap.size w w' := by
  have hb0 := below_pb w pbTy lv cv n
  have hV := hidden (ltValid_any A lv cv L C n _ (h.below hb0 (Nat.le_refl _)) (hE.below hb0 (Nat.le_refl _)))
  have hpb := pbAt_new w pbTy lv cv n
  have hp := hidden (fun W (hW : Below (w.alloc (pbO pbTy lv cv n)).heap.size (w.alloc (pbO pbTy lv cv n)) W) => (hpb.below hW (Nat.le_refl _)).cells)
  obtain ⟨la, lc, rfl⟩ := row_slice h.lots
  obtain ⟨ca, cc, rfl⟩ := reads_slice h.caps
  obtain ⟨ta, tc, rfl⟩ := reads_slice hr
  have hx := hidden (fun k hk W (h2 : Below w.heap.size w W) => rowLt_at (h.lots.below ltV_len h2 (Nat.le_refl _)) k hk)
  have ht := hidden (fun k hk W (h2 : Below w.heap.size w W) => (hr.below h2 (Nat.le_refl _)).cell k hk)
  have hlen := h.len
  have hb := hidden hb0
  clear h hr hE hb0 hpb
  by_cases hok : OkP L C n
  · rw [pbC_ok hok, errOf_fine] at hV
    by_cases hl : t.length = L.length
    · have hlb : (((t.length : Nat) : Int) != (L.length : Int)) = false := by rw [hl]; simp
      have hG := hidden (fun (q : tkPart L t L.length) => goodB_yes hok (show TkOk L t from ⟨hl, q⟩))
      have hNo := hidden (fun k hk => @good_out L C n t k hk)
      replace hl := hidden hl
      clear hok
      go_enter Tryd.func42, Tryd.ntmps42
      go_wp2_with fail
      (with_reducible refine hV.out.mono ?_)
      rintro e w1 ⟨rfl, hb1⟩
      obtain ⟨c0, c1, c2⟩ := hp.out _ hb1
      have hb2 := hidden (hb.out.trans (hb1.mono hb.out.size))
      clear hV hb1 hp
      go_wp2_with fail
      go_loopw [21] (fun i wr => MtRel L t w i wr) (fun i _ => L.length - (RowKit.intOf i).toNat)
      case atStart => exact ⟨0, Nat.zero_le _, rfl, (fun j hj => by omega), hb2.out⟩
      case round =>
        clear hb2 c0 c1 c2
        obtain ⟨k, hk, rfl, htk, hb3⟩ := hrel
        by_cases hlt : k < L.length
        · obtain ⟨b, o, rfl, q0, q1, q2, q3⟩ := hx.out k hlt _ hb3
          have hlt2 : k < t.length := by rw [hl.out]; exact hlt
          have hlI : (k : Int) < (L.length : Int) := by omega
          have hlI2 : (k : Int) < (t.length : Int) := by omega
          have hbl := hidden (hb3.trans ((below_lt wr (L.getD k ltZ)).mono hb3.size))
          obtain ⟨tb, tof, rfl, ct⟩ := ht.out k hlt2 _ hbl.out
          have cu := (ltBox (Below.refl (wr.alloc (ltO (L.getD k ltZ))).heap.size (wr.alloc (ltO (L.getD k ltZ))))).1
          have hou := hidden (fun W => ltOut_any (t.getD k 0) (L.getD k ltZ).u W)
          cases hB : ouB (t.getD k 0) (L.getD k ltZ).u
          · have hN := hidden (tkPart_next htk hB)
            rw [hB] at hou
            generalize t.getD k 0 = x at *
            generalize L.getD k ltZ = y at *
            have hs0 := hidden (show MtS w tb (tof + k) wr.heap.size x y.u (wr.alloc (ltO y)) from ⟨ct, cu, hbl.out⟩)
            obtain ⟨u, v, c, g⟩ := y
            simp only at q0 q1 q2 q3 hou hs0
            clear ct cu hB htk hx ht hNo hb3 hbl
            go_wp2_with fail
            go_region_held3 (fun W => W.cell? ⟨tb, tof + k, none⟩ = some (.int .i64 x) ∧ W.cell? ⟨wr.heap.size, 0, none⟩ = some (.int .i64 u) ∧ Below w.heap.size w W)
              ((first | exact mtS_drew hs0.out | assumption))
              ((go_at_call 38; (with_reducible refine (hou.out _).mono ?_); rintro r w' ⟨rfl, rfl⟩))
            all_goals
              rename_i hh
              have hend := hidden hh.2.2
              clear hh hs0
              go_wp2
              go_roundw
              case rel => exact ⟨k + 1, hlt, by go_num, hN.out, hend.out⟩
              case measure => simp [RowKit.intOf]; omega
          · have hN := hidden (hNo.out k hlt hB)
            rw [hB] at hou
            generalize t.getD k 0 = x at *
            generalize L.getD k ltZ = y at *
            have hs0 := hidden (show MtS w tb (tof + k) wr.heap.size x y.u (wr.alloc (ltO y)) from ⟨ct, cu, hbl.out⟩)
            obtain ⟨u, v, c, g⟩ := y
            simp only at q0 q1 q2 q3 hou hs0
            clear ct cu hB htk hx ht hNo hb3 hbl
            go_wp2_with fail
            go_region_held3 (fun W => W.cell? ⟨tb, tof + k, none⟩ = some (.int .i64 x) ∧ W.cell? ⟨wr.heap.size, 0, none⟩ = some (.int .i64 u) ∧ Below w.heap.size w W)
              ((first | exact mtS_drew hs0.out | assumption))
              ((go_at_call 38; (with_reducible refine (hou.out _).mono ?_); rintro r w' ⟨rfl, rfl⟩))
            all_goals
              rename_i hh
              have hend := hidden hh.2.2
              clear hh hs0
              go_wp2
              go_ret
              exact ⟨ret_bool hN.out.symm, hend.out⟩
        · obtain rfl : k = L.length := by omega
          have hG2 := hidden (hG.out htk)
          replace hb3 := hidden hb3
          clear htk hG
          go_wp2
          go_ret
          exact ⟨ret_bool hG2.out.symm, hb3.out⟩
    · have hlb : (((t.length : Nat) : Int) != (L.length : Int)) = true := by rw [bne_iff_ne]; omega
      rw [goodB_no (fun q => hl q.2.1)]
      clear hok hl
      go_enter Tryd.func42, Tryd.ntmps42
      go_wp2_with fail
      (with_reducible refine hV.out.mono ?_)
      rintro e w1 ⟨rfl, hb1⟩
      obtain ⟨c0, c1, c2⟩ := hp.out _ hb1
      have hb2 := hidden (hb.out.trans (hb1.mono hb.out.size))
      clear hV hb1 hp
      go_wp2
      go_ret
      exact ⟨rfl, hb2.out⟩
  · rw [goodB_no (fun q => hok q.1)]
    have hw := pbC_ways L C n
    have hne : pbC L C n ≠ 0 := fun q => hok (pbC_iff.1 q)
    generalize pbC L C n = c at *
    clear hok hx ht
    rcases hw with q | rfl | rfl
    · exact absurd q hne
    · rw [errOf_103] at hV
      go_enter Tryd.func42, Tryd.ntmps42
      go_wp2_with fail
      (with_reducible refine hV.out.mono ?_)
      rintro e w1 ⟨rfl, hb1⟩
      have hb2 := hidden (hb.out.trans (hb1.mono hb.out.size))
      clear hV hb1 hp
      go_wp2
      go_ret
      exact ⟨rfl, hb2.out⟩
    · rw [errOf_105] at hV
      go_enter Tryd.func42, Tryd.ntmps42
      go_wp2_with fail
      (with_reducible refine hV.out.mono ?_)
      rintro e w1 ⟨rfl, hb1⟩
      have hb2 := hidden (hb.out.trans (hb1.mono hb.out.size))
      clear hV hb1 hp
      go_wp2
      go_ret
      exact ⟨rfl, hb2.out⟩
end Go.Proofs.YtaojahjgfgmpfaaDoor
