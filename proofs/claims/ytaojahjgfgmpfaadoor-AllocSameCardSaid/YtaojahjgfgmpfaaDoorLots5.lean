/-
  Worth, Cost, Fits, Most.
-/
import Derived.Test.YtaojahjgfgmpfaaDoorLots4
namespace Go.Proofs.YtaojahjgfgmpfaaDoor
open Go.RowKit
set_option linter.unusedVariables false

set_option maxRecDepth 100000 in
set_option maxHeartbeats 6400000 in
theorem ltWorth2_any (A : Nat → Addr) (lv cv : Value) (L : List Lt) (C : List Int) (n : Int) (tv : Value) (t : List Int) (w : World) (h : PbR w lv cv L C) (hr : Reads .i64 w tv t) (hE : ErrsOn [2, 4] w A) :
    Calls Tryd.prog 30 #[pbA lv cv n, tv] w fun e w' => e = .returned (.tuple #[.int .i64 (woV L C n t), .bool (goodB L C n t)]) ∧ Below w.heap.size w w' := by
  have hb0 := below_pb w pbTy lv cv n
  have hpb := pbAt_new w pbTy lv cv n
  have hp := hidden (fun W (hW : Below (w.alloc (pbO pbTy lv cv n)).heap.size (w.alloc (pbO pbTy lv cv n)) W) => (hpb.below hW (Nat.le_refl _)).cells)
  have hM := hidden (mayTake_any A lv cv L C n tv t _ (h.below hb0 (Nat.le_refl _)) (hr.below hb0 (Nat.le_refl _)) (hE.below hb0 (Nat.le_refl _)))
  have hW := hidden (fun W (h2 : Below w.heap.size w W) => ltWorth_any lv cv L C n tv t W (h.below h2 (Nat.le_refl _)) (hr.below h2 (Nat.le_refl _)))
  have hb := hidden hb0
  obtain ⟨la, lc, rfl⟩ := row_slice h.lots
  obtain ⟨ca, cc, rfl⟩ := reads_slice h.caps
  obtain ⟨ta, tc, rfl⟩ := reads_slice hr
  clear h hr hE hb0 hpb
  unfold woV
  cases hB : goodB L C n t
  · rw [hB] at hM
    rw [if_neg (by decide)]
    clear hW hB
    go_enter Tryd.func30, Tryd.ntmps30
    go_wp2_with fail
    (with_reducible refine hM.out.mono ?_)
    rintro e w1 ⟨rfl, hb1⟩
    have hb2 := hidden (hb.out.trans (hb1.mono hb.out.size))
    clear hM hb1 hp
    go_wp2
    go_ret2
    exact ⟨rfl, hb2.out⟩
  · rw [hB] at hM
    rw [if_pos rfl]
    obtain ⟨hok, htk⟩ := goodB_iff.1 hB
    replace hW := hidden (fun W h2 => hW.out W h2 hok htk)
    clear hB hok htk
    go_enter Tryd.func30, Tryd.ntmps30
    go_wp2_with fail
    (with_reducible refine hM.out.mono ?_)
    rintro e w1 ⟨rfl, hb1⟩
    obtain ⟨c0, c1, c2⟩ := hp.out _ hb1
    have hb2 := hidden (hb.out.trans (hb1.mono hb.out.size))
    replace hW := hidden (hW.out _ hb2.out)
    clear hM hb1 hp
    go_wp2_with fail
    (with_reducible refine hW.out.mono ?_)
    rintro e w2 ⟨rfl, hb3⟩
    replace hb3 := hidden (hb2.out.trans (hb3.mono hb2.out.size))
    clear hW
    go_wp2
    go_ret2
    exact ⟨rfl, hb3.out⟩
def CoRel (L : List Lt) (t : List Int) (w0 : World) (s i : Value) (w : World) : Prop := ∃ k : Nat, k ≤ L.length ∧ i = .int .i64 (k : Int) ∧ s = .int .i64 (sumF (coF L t) k) ∧ Below w0.heap.size w0 w
set_option maxRecDepth 100000 in
set_option maxHeartbeats 6400000 in
theorem ltCost_any (A : Nat → Addr) (lv cv : Value) (L : List Lt) (C : List Int) (n : Int) (tv : Value) (t : List Int) (w : World) (h : PbR w lv cv L C) (hr : Reads .i64 w tv t) (hE : ErrsOn [2, 4] w A) :
    Calls Tryd.prog 24 #[pbA lv cv n, tv] w fun e w' => e = .returned (.tuple #[.int .i64 (coV L C n t), .bool (goodB L C n t)]) ∧ Below w.heap.size w w' := by
  have hb0 := below_pb w pbTy lv cv n
  have hpb := pbAt_new w pbTy lv cv n
  have hp := hidden (fun W (hW : Below (w.alloc (pbO pbTy lv cv n)).heap.size (w.alloc (pbO pbTy lv cv n)) W) => (hpb.below hW (Nat.le_refl _)).cells)
  have hM := hidden (mayTake_any A lv cv L C n tv t _ (h.below hb0 (Nat.le_refl _)) (hr.below hb0 (Nat.le_refl _)) (hE.below hb0 (Nat.le_refl _)))
  have hb := hidden hb0
  obtain ⟨la, lc, rfl⟩ := row_slice h.lots
  obtain ⟨ca, cc, rfl⟩ := reads_slice h.caps
  obtain ⟨ta, tc, rfl⟩ := reads_slice hr
  have hx := hidden (fun k hk W (h2 : Below w.heap.size w W) => rowLt_at (h.lots.below ltV_len h2 (Nat.le_refl _)) k hk)
  have ht := hidden (fun k hk W (h2 : Below w.heap.size w W) => (hr.below h2 (Nat.le_refl _)).cell k hk)
  have hlen := h.len
  clear h hr hE hb0 hpb
  unfold coV
  cases hB : goodB L C n t
  · rw [hB] at hM
    rw [if_neg (by decide)]
    clear hB
    go_enter Tryd.func24, Tryd.ntmps24
    go_wp2_with fail
    (with_reducible refine hM.out.mono ?_)
    rintro e w1 ⟨rfl, hb1⟩
    have hb2 := hidden (hb.out.trans (hb1.mono hb.out.size))
    clear hM hb1 hp
    go_wp2
    go_ret2
    exact ⟨rfl, hb2.out⟩
  · rw [hB] at hM
    rw [if_pos rfl]
    obtain ⟨hok, htk⟩ := goodB_iff.1 hB
    have hcb := hidden (fun k hk => coS_bd hok htk (k := k) hk)
    have hcf := hidden (fun k hk => coF_bd hok htk (i := k) hk)
    have hl := hidden htk.1
    clear hB hok htk
    go_enter Tryd.func24, Tryd.ntmps24
    go_wp2_with fail
    (with_reducible refine hM.out.mono ?_)
    rintro e w1 ⟨rfl, hb1⟩
    obtain ⟨c0, c1, c2⟩ := hp.out _ hb1
    have hb2 := hidden (hb.out.trans (hb1.mono hb.out.size))
    clear hM hb1 hp
    go_wp2_with fail
    go_loopw [6, 16] (fun s i wr => CoRel L t w s i wr) (fun _ i _ => L.length - (RowKit.intOf i).toNat)
    case atStart => exact ⟨0, Nat.zero_le _, rfl, rfl, hb2.out⟩
    case round =>
      clear hb2 c0 c1 c2
      obtain ⟨k, hk, rfl, rfl, hb3⟩ := hrel
      by_cases hlt : k < L.length
      · obtain ⟨b, o, rfl, q0, q1, q2, q3⟩ := hx.out k hlt _ hb3
        have hlt2 : k < t.length := by rw [hl.out]; exact hlt
        have hlI : (k : Int) < (L.length : Int) := by omega
        have hlI2 : (k : Int) < (t.length : Int) := by omega
        have hbl := hidden (hb3.trans ((below_lt wr (L.getD k ltZ)).mono hb3.size))
        obtain ⟨tb, tof, rfl, ct⟩ := ht.out k hlt2 _ hbl.out
        have h1 := hcb.out k hk
        have h2 := hcf.out k hlt
        have hst := hidden (show sumF (coF L t) (k + 1) = sumF (coF L t) k + coF L t k from rfl)
        have hwm : IntKind.i64.wrap (t.getD k 0 * (L.getD k ltZ).c) = coF L t k := by
          rw [show t.getD k 0 * (L.getD k ltZ).c = coF L t k from rfl, IntKind.wrap_i64]; omega
        have hws : IntKind.i64.wrap (sumF (coF L t) k + coF L t k) = sumF (coF L t) k + coF L t k := by rw [IntKind.wrap_i64]; omega
        clear hcb hcf hx ht
        generalize coF L t k = f at *
        generalize sumF (coF L t) k = S at *
        generalize t.getD k 0 = x at *
        generalize L.getD k ltZ = y at *
        obtain ⟨u, v, c, gg⟩ := y
        simp only at q0 q1 q2 q3 hwm
        replace hb3 := hidden hb3
        go_wp2_with fail
        go_region
        all_goals
          go_wp2
          go_roundw
          case rel => exact ⟨k + 1, hlt, by go_num, by rw [hst.out], hbl.out.drew⟩
          case measure => simp [RowKit.intOf]; omega
      · obtain rfl : k = L.length := by omega
        replace hb3 := hidden hb3
        go_wp2
        go_ret2
        exact ⟨rfl, hb3.out⟩
set_option maxRecDepth 100000 in
set_option maxHeartbeats 6400000 in
theorem ltFits_any (A : Nat → Addr) (lv cv : Value) (L : List Lt) (C : List Int) (n : Int) (tv : Value) (t : List Int) (w : World) (h : PbR w lv cv L C) (hr : Reads .i64 w tv t) (hE : ErrsOn [2, 4] w A) :
    Calls Tryd.prog 22 #[pbA lv cv n, tv] w fun e w' => e = .returned (.bool (fiB L C n t)) ∧ Below w.heap.size w w' := by
  have hb0 := below_pb w pbTy lv cv n
  have hpb := pbAt_new w pbTy lv cv n
  have hp := hidden (fun W (hW : Below (w.alloc (pbO pbTy lv cv n)).heap.size (w.alloc (pbO pbTy lv cv n)) W) => (hpb.below hW (Nat.le_refl _)).cells)
  have hM := hidden (ltWorth2_any A lv cv L C n tv t _ (h.below hb0 (Nat.le_refl _)) (hr.below hb0 (Nat.le_refl _)) (hE.below hb0 (Nat.le_refl _)))
  have hb := hidden hb0
  obtain ⟨la, lc, rfl⟩ := row_slice h.lots
  obtain ⟨ca, cc, rfl⟩ := reads_slice h.caps
  obtain ⟨ta, tc, rfl⟩ := reads_slice hr
  clear h hr hE hb0 hpb
  unfold fiB
  generalize goodB L C n t = B at *
  generalize woV L C n t = x at *
  cases B
  all_goals
    go_enter Tryd.func22, Tryd.ntmps22
    go_wp2_with fail
    (with_reducible refine hM.out.mono ?_)
    rintro e w1 ⟨rfl, hb1⟩
    obtain ⟨c0, c1, c2⟩ := hp.out _ hb1
    have hb2 := hidden (hb.out.trans (hb1.mono hb.out.size))
    clear hM hb1 hp
    go_wp2
    go_ret
    exact ⟨ret_bool (by simp), hb2.out⟩
theorem mk_ints18 (n : Nat) (hn : n ≤ 1000000) (W : World) : (Instr.makeSlice 32 (.int .i64 n) (.int .i64 n)).run Tryd.prog W = .ok (.slice (some ⟨W.heap.size, 0, none⟩) n n) (W.alloc (.cells (Array.replicate n (.int .i64 0)) 3)) := by
  obtain ⟨i0, hi, hz0, hz1, hz2⟩ := info_parts (show (Tryd.prog.info? 3).map (fun i => (i.zero, i.size, i.bytes)) = some (some (.int .i64 0), 1, 8) by kernel_rfl)
  have := run_make (P := Tryd.prog) W 32 3 i0 _ Tryd.underlying32 hi hz0 .i64 .i64 n n (by omega) (by omega) (by rw [hz2]; omega) (by omega)
  rw [this, Int.toNat_natCast, hz1, Nat.mul_one]
  have e : madeCells (Value.int .i64 0).cells n = Array.replicate n (.int .i64 0) := by
    apply Array.ext'
    show (madeCells #[Value.int .i64 0] n).toList = _
    rw [toList_madeCells_one]
    simp
  rw [e]
theorem numAt_new (T : TypeId) (w : World) (n : Nat) : NumAt T (w.alloc (.cells (Array.replicate n (.int .i64 0)) T)) w.heap.size (List.replicate n 0) := by
  unfold NumAt
  rw [heap_alloc_new w _]
  simp
/-- a row that is filled from its beginning. -/
def fillL (F : List Int) (k : Nat) : List Int := F.take k ++ List.replicate (F.length - k) 0
theorem fillL_len (F : List Int) {k : Nat} (h : k ≤ F.length) : (fillL F k).length = F.length := by simp [fillL]; omega
theorem fillL_end (F : List Int) : fillL F F.length = F := by simp [fillL]
theorem fillL_set (F : List Int) (k : Nat) (h : k < F.length) : (fillL F k).set k (F.getD k 0) = fillL F (k + 1) := by
  unfold fillL
  have e : (F.take k).length = k := by simp; omega
  rw [List.set_append_right _ _ (by omega), e, Nat.sub_self, show F.length - k = (F.length - (k + 1)) + 1 by omega, List.replicate_succ, List.take_succ_eq_append_getElem h, List.getD_eq_getElem?_getD, List.getElem?_eq_getElem h, List.append_assoc]
  rfl
def MoRel (F : List Int) (gb p : Nat) (lv cv : Value) (n : Int) (w0 : World) (i : Value) (w : World) : Prop :=
  ∃ k : Nat, k ≤ F.length ∧ i = .int .i64 (k : Int) ∧ NumAt 3 w gb (fillL F k) ∧ PbAt w p pbTy lv cv n ∧ Below w0.heap.size w0 w
set_option maxRecDepth 100000 in
set_option maxHeartbeats 6400000 in
theorem ltMost_any (A : Nat → Addr) (lv cv : Value) (L : List Lt) (C : List Int) (n : Int) (w : World) (h : PbR w lv cv L C) (hl : L.length ≤ 1000) (hE : ErrsOn [2, 4] w A) :
    Calls Tryd.prog 21 #[pbA lv cv n] w fun e w' => e = .returned (.int .i64 (moV L C n)) ∧ Below w.heap.size w w' := by
  have hb0 := below_pb w pbTy lv cv n
  have hpb := pbAt_new w pbTy lv cv n
  have hbA := (Below.refl (w.alloc (pbO pbTy lv cv n)).heap.size (w.alloc (pbO pbTy lv cv n))).alloc (Nat.le_refl _) (.cells (Array.replicate L.length (.int .i64 0)) 3)
  have hp1 := hpb.below hbA (Nat.le_refl _)
  obtain ⟨c0, c1, c2⟩ := hpb.cells
  obtain ⟨d0, d1, d2⟩ := hp1.cells
  have hWo := hidden (fun W (h2 : Below w.heap.size w W) tv hr => ltWorth2_any A lv cv L C n tv (full L) W (h.below h2 (Nat.le_refl _)) hr (hE.below h2 (Nat.le_refl _)))
  obtain ⟨la, lc, rfl⟩ := row_slice h.lots
  obtain ⟨ca, cc, rfl⟩ := reads_slice h.caps
  have hx := hidden (fun k hk W (h2 : Below w.heap.size w W) => rowLt_at (h.lots.below ltV_len h2 (Nat.le_refl _)) k hk)
  have hlen := h.len
  have hmk := mk_ints18 L.length (by omega)
  have hn := hidden (numAt_new 3 (w.alloc (pbO pbTy (.slice la L.length lc) (.slice ca C.length cc) n)) L.length)
  have hfl := full_len L
  have hst : NumAt 3 ((w.alloc (pbO pbTy (.slice la L.length lc) (.slice ca C.length cc) n)).alloc (.cells (Array.replicate L.length (.int .i64 0)) 3)) (w.heap.size + 1) (fillL (full L) 0) := by
    unfold fillL
    rw [hfl]
    simpa using hn.out
  replace hst := hidden hst
  have hbst := hidden (hb0.trans (hbA.mono hb0.size))
  have hfu := hidden (fun k => full_at L k)
  have hfs := hidden (fun k h => fillL_set (full L) k h)
  have hfe := hidden (fillL_end (full L))
  have hfn := hidden (fun k h => fillL_len (full L) (k := k) h)
  replace hp1 := hidden hp1
  unfold moV
  generalize full L = F at *
  clear h hE hb0 hpb hbA hn
  go_enter Tryd.func21, Tryd.ntmps21
  go_wp2_with fail
  go_loopw [15] (fun i wr => MoRel F (w.heap.size + 1) w.heap.size (.slice la L.length lc) (.slice ca C.length cc) n w i wr) (fun i _ => F.length - (RowKit.intOf i).toNat)
  case atStart => exact ⟨0, Nat.zero_le _, rfl, hst.out, hp1.out, hbst.out⟩
  case round =>
    clear hst hbst hp1 c0 c1 c2 d0 d1 d2
    obtain ⟨k, hk, rfl, hA, hP, hb3⟩ := hrel
    by_cases hlt : k < F.length
    · obtain ⟨b, o, rfl, q0, q1, q2, q3⟩ := hx.out k (by omega) _ hb3
      have hlI : (k : Int) < (L.length : Int) := by omega
      have hbw := below_lt wr (L.getD k ltZ)
      have hbl := hidden (hb3.trans (hbw.mono hb3.size))
      have hA2 := hA.below hbw (Nat.le_refl _)
      have hP2 := hidden (hP.below hbw (Nat.le_refl _))
      have cg := hA2.cell (i := k) (by rw [hfn.out k hk]; exact hlt)
      have fg := hA2.frozen k
      have hA3 := hidden (hA2.set k (L.getD k ltZ).u)
      rw [← hfu.out k, hfs.out k hlt] at hA3
      have hfk := hidden (hfu.out k)
      generalize (fillL F k).getD k 0 = z at *
      clear hA hA2 hP hx hbw
      rw [hfk.out] at hA3
      generalize L.getD k ltZ = y at *
      obtain ⟨u, v, c, gg⟩ := y
      simp only at q0 q1 q2 q3
      replace hb3 := hidden hb3
      have hbn := hidden (hbl.out.setCell (show w.heap.size ≤ w.heap.size + 1 from Nat.le_succ _) (.int .i64 u) : Below w.heap.size w ((wr.alloc (ltO ⟨u, v, c, gg⟩)).setCell ⟨w.heap.size + 1, k, none⟩ (.int .i64 u)))
      go_wp2
      go_roundw
      case rel => exact ⟨k + 1, hlt, by go_num, hA3.out, ⟨(hP2.out.put (b := w.heap.size + 1) (by omega) k (.int .i64 u)).row⟩, hbn.out⟩
      case measure => simp [RowKit.intOf]; omega
    · obtain rfl : k = F.length := by omega
      rw [hfe.out] at hA
      have hR := hidden (hA.reads hfl (by omega))
      obtain ⟨c0, c1, c2⟩ := hP.cells
      have hW := hidden (hWo.out _ hb3 _ hR.out)
      replace hb3 := hidden hb3
      clear hA hP hWo
      go_wp2_with fail
      (with_reducible refine hW.out.mono ?_)
      rintro e w5 ⟨rfl, hb5⟩
      replace hb5 := hidden (hb3.out.trans (hb5.mono hb3.out.size))
      clear hW
      go_wp2
      go_ret
      exact ⟨rfl, hb5.out⟩
end Go.Proofs.YtaojahjgfgmpfaaDoor
