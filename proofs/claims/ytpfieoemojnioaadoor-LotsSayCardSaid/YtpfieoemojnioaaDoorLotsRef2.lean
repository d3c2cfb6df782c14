/-
  The document's own: right, Cost, Fits, Full.
-/
import Derived.Test.YtpfieoemojnioaaDoorLotsRef1
import Derived.Test.YtpfieoemojnioaaDoorInts
namespace Go.Proofs.YtpfieoemojnioaaDoor
open Go.RowKit
set_option linter.unusedVariables false

set_option maxRecDepth 100000 in
set_option maxHeartbeats 6400000 in
theorem r18Right_any (lv cv : Value) (L : List Lt) (C : List Int) (n : Int) (tv : Value) (t : List Int) (w : World) (h : PbR w lv cv L C) (hr : Reads .i64 w tv t) :
    Calls Tryd.prog 29 #[pbA lv cv n, tv] w fun e w' => e = .returned (.bool (goodB L C n t)) ∧ Below w.heap.size w w' := by
  have hb0 := below_pb w pbTyR lv cv n
  have hV := hidden (r18Valid_any lv cv L C n _ (h.below hb0 (Nat.le_refl _)))
  have hpb := pbAt_new w pbTyR lv cv n
  have hbx := hidden (fun W (hW : Below (w.alloc (pbO pbTyR lv cv n)).heap.size (w.alloc (pbO pbTyR lv cv n)) W) => hb0.trans (hW.mono hb0.size))
  have hp := hidden (fun W (hW : Below (w.alloc (pbO pbTyR lv cv n)).heap.size (w.alloc (pbO pbTyR lv cv n)) W) => (hpb.below hW (Nat.le_refl _)).cells)
  obtain ⟨la, lc, rfl⟩ := row_slice h.lots
  obtain ⟨ca, cc, rfl⟩ := reads_slice h.caps
  obtain ⟨ta, tc, rfl⟩ := reads_slice hr
  have hx := hidden (fun k hk W (h2 : Below w.heap.size w W) => rowLt_at (h.lots.below ltV_len h2 (Nat.le_refl _)) k hk)
  have ht := hidden (fun k hk W (h2 : Below w.heap.size w W) => (hr.below h2 (Nat.le_refl _)).cell k hk)
  have hlen := h.len
  clear h hr hb0 hpb
  by_cases hok : OkP L C n
  · rw [pbC_ok hok] at hV
    by_cases hl : t.length = L.length
    · have hlb : (((t.length : Nat) : Int) != (L.length : Int)) = false := by rw [hl]; simp
      have hG := hidden (fun (q : tkPart L t L.length) => goodB_yes hok (show TkOk L t from ⟨hl, q⟩))
      have hNo := hidden (fun k hk => @good_out L C n t k hk)
      replace hl := hidden hl
      clear hok
      go_enter Tryd.func29, Tryd.ntmps29
      go_wp2_with fail
      generalize w.alloc (pbO pbTyR (.slice la L.length lc) (.slice ca C.length cc) n) = wP at *
      (with_reducible refine hV.out.mono ?_)
      rintro e w1 ⟨rfl, hb1⟩
      obtain ⟨c0, c1, c2⟩ := hp.out _ hb1
      replace hb1 := hidden hb1
      clear hV
      go_wp2_with fail
      go_loopw [5] (fun i wr => MtRel L t wP i wr) (fun i _ => L.length - (RowKit.intOf i).toNat)
      case atStart => exact ⟨0, Nat.zero_le _, rfl, (fun j hj => by omega), hb1.out⟩
      case round =>
        clear hb1 c0 c1 c2
        obtain ⟨k, hk, rfl, htk, hb3⟩ := hrel
        obtain ⟨c0, c1, c2⟩ := hp.out _ hb3
        by_cases hlt : k < L.length
        · obtain ⟨b, o, rfl, q0, q1, q2, q3⟩ := hx.out k hlt _ (hbx.out _ hb3)
          have hlt2 : k < t.length := by rw [hl.out]; exact hlt
          have hlI : (k : Int) < (L.length : Int) := by omega
          have hlI2 : (k : Int) < (t.length : Int) := by omega
          have hk0 : (0 : Int) ≤ (k : Int) := by omega
          obtain ⟨tb, to, rfl, ct⟩ := ht.out k hlt2 _ (hbx.out _ hb3)
          have hw := ouB_ways (t.getD k 0) (L.getD k ltZ).u
          have hN := hidden (fun h => tkPart_next htk h)
          have hNo2 := hidden (fun h => hNo.out k hlt h)
          have hbd := hidden (fun m => below_drewN (m := m) hb3)
          have hbe := hidden (fun m => below_drewN (m := m) (hbx.out _ hb3))
          clear htk hx ht hNo hb3 hG
          generalize ouB (t.getD k 0) (L.getD k ltZ).u = B at *
          generalize t.getD k 0 = x at *
          generalize L.getD k ltZ = y at *
          obtain ⟨u, v, c, g⟩ := y
          simp only at q0 q1 q2 q3 hw
          rcases hw with ⟨z1, q⟩ | ⟨z1, z2, q⟩ | ⟨z1, z2, q⟩
          · have hE := hidden (hNo2.out q)
            clear hN hNo2 q
            go_wp2_with fail
            go_quiet (fail)
            go_wp2
            go_ret
            exact ⟨ret_bool hE.out.symm, hbe.out _⟩
          · have hE := hidden (hNo2.out q)
            clear hN hNo2 q
            go_wp2_with fail
            go_quiet (fail)
            go_wp2
            go_ret
            exact ⟨ret_bool hE.out.symm, hbe.out _⟩
          · have hE := hidden (hN.out q)
            clear hN hNo2 q
            go_wp2_with fail
            go_quiet (fail)
            go_wp2
            go_roundw
            case rel => exact ⟨k + 1, hlt, by go_num, hE.out, hbd.out _⟩
            case measure => simp [RowKit.intOf]; omega
        · obtain rfl : k = L.length := by omega
          have hG2 := hidden (hG.out htk)
          have hlI : ¬ (L.length : Int) < (t.length : Int) := by rw [hl.out]; omega
          replace hb3 := hidden (hbx.out _ hb3)
          clear htk hG
          go_wp2
          go_ret
          exact ⟨ret_bool hG2.out.symm, hb3.out⟩
    · have hlb : (((t.length : Nat) : Int) != (L.length : Int)) = true := by rw [bne_iff_ne]; omega
      rw [goodB_no (fun q => hl q.2.1)]
      clear hok hl hx ht
      go_enter Tryd.func29, Tryd.ntmps29
      go_wp2_with fail
      (with_reducible refine hV.out.mono ?_)
      rintro e w1 ⟨rfl, hb1⟩
      obtain ⟨c0, c1, c2⟩ := hp.out _ hb1
      have hb2 := hidden (hbx.out _ hb1)
      clear hV hb1 hp
      go_wp2
      go_ret
      exact ⟨rfl, hb2.out⟩
  · rw [goodB_no (fun q => hok q.1)]
    have hne : (pbC L C n != 0) = true := by rw [bne_iff_ne]; exact fun q => hok (pbC_iff.1 q)
    generalize pbC L C n = c at *
    clear hok hx ht
    go_enter Tryd.func29, Tryd.ntmps29
    go_wp2_with fail
    (with_reducible refine hV.out.mono ?_)
    rintro e w1 ⟨rfl, hb1⟩
    have hb2 := hidden (hbx.out _ hb1)
    clear hV hb1 hp
    go_wp2
    go_ret
    exact ⟨rfl, hb2.out⟩
set_option maxRecDepth 100000 in
set_option maxHeartbeats 6400000 in
theorem r18Cost_any (lv cv : Value) (L : List Lt) (C : List Int) (n : Int) (tv : Value) (t : List Int) (w : World) (h : PbR w lv cv L C) (hr : Reads .i64 w tv t) :
    Calls Tryd.prog 15 #[pbA lv cv n, tv] w fun e w' => e = .returned (.tuple #[.int .i64 (coV L C n t), .bool (goodB L C n t)]) ∧ Below w.heap.size w w' := by
  have hb0 := below_pb w pbTyR lv cv n
  have hM := hidden (r18Right_any lv cv L C n tv t _ (h.below hb0 (Nat.le_refl _)) (hr.below hb0 (Nat.le_refl _)))
  have hpb := pbAt_new w pbTyR lv cv n
  have hbx := hidden (fun W (hW : Below (w.alloc (pbO pbTyR lv cv n)).heap.size (w.alloc (pbO pbTyR lv cv n)) W) => hb0.trans (hW.mono hb0.size))
  have hp := hidden (fun W (hW : Below (w.alloc (pbO pbTyR lv cv n)).heap.size (w.alloc (pbO pbTyR lv cv n)) W) => (hpb.below hW (Nat.le_refl _)).cells)
  obtain ⟨la, lc, rfl⟩ := row_slice h.lots
  obtain ⟨ca, cc, rfl⟩ := reads_slice h.caps
  obtain ⟨ta, tc, rfl⟩ := reads_slice hr
  have hx := hidden (fun k hk W (h2 : Below w.heap.size w W) => rowLt_at (h.lots.below ltV_len h2 (Nat.le_refl _)) k hk)
  have ht := hidden (fun k hk W (h2 : Below w.heap.size w W) => (hr.below h2 (Nat.le_refl _)).cell k hk)
  have hlen := h.len
  clear h hr hb0 hpb
  unfold coV
  cases hB : goodB L C n t
  · rw [hB] at hM
    rw [if_neg (by decide)]
    clear hB hx ht
    go_enter Tryd.func15, Tryd.ntmps15
    go_wp2_with fail
    (with_reducible refine hM.out.mono ?_)
    rintro e w1 ⟨rfl, hb1⟩
    have hb2 := hidden (hbx.out _ hb1)
    clear hM hb1 hp
    go_wp2
    go_ret2
    exact ⟨rfl, hb2.out⟩
  · rw [hB] at hM
    rw [if_pos rfl]
    obtain ⟨hok, htk⟩ := goodB_iff.1 hB
    have hcb := hidden (fun k hk => coS_bd hok htk (k := k) hk)
    have hcf := hidden (fun k hk => coF_bd hok htk (i := k) hk)
    have hl := hidden htk.1
    clear hB hok htk
    go_enter Tryd.func15, Tryd.ntmps15
    go_wp2_with fail
    generalize w.alloc (pbO pbTyR (.slice la L.length lc) (.slice ca C.length cc) n) = wP at *
    (with_reducible refine hM.out.mono ?_)
    rintro e w1 ⟨rfl, hb1⟩
    replace hb1 := hidden hb1
    clear hM
    go_wp2_with fail
    go_loopw [6, 7] (fun s i wr => CoRel L t wP s i wr) (fun _ i _ => L.length - (RowKit.intOf i).toNat)
    case atStart => exact ⟨0, Nat.zero_le _, rfl, rfl, hb1.out⟩
    case round =>
      clear hb1
      obtain ⟨k, hk, rfl, rfl, hb3⟩ := hrel
      obtain ⟨c0, c1, c2⟩ := hp.out _ hb3
      by_cases hlt : k < L.length
      · obtain ⟨b, o, rfl, q0, q1, q2, q3⟩ := hx.out k hlt _ (hbx.out _ hb3)
        have hlt2 : k < t.length := by rw [hl.out]; exact hlt
        have hlI : (k : Int) < (L.length : Int) := by omega
        have hlI2 : (k : Int) < (t.length : Int) := by omega
        have hk0 : (0 : Int) ≤ (k : Int) := by omega
        obtain ⟨tb, to, rfl, ct⟩ := ht.out k hlt2 _ (hbx.out _ hb3)
        have hbd := hidden (fun m => below_drewN (m := m) hb3)
        have h1 := hcb.out k hk
        have h2 := hcf.out k hlt
        have hst := hidden (show sumF (coF L t) (k + 1) = sumF (coF L t) k + coF L t k from rfl)
        have hwm : IntKind.i64.wrap (t.getD k 0 * (L.getD k ltZ).c) = coF L t k := by
          rw [show t.getD k 0 * (L.getD k ltZ).c = coF L t k from rfl, IntKind.wrap_i64]; omega
        have hws : IntKind.i64.wrap (sumF (coF L t) k + coF L t k) = sumF (coF L t) k + coF L t k := by rw [IntKind.wrap_i64]; omega
        clear hcb hcf hx ht hb3
        generalize coF L t k = f at *
        generalize sumF (coF L t) k = S at *
        generalize t.getD k 0 = x at *
        generalize L.getD k ltZ = y at *
        obtain ⟨u, v, c, gg⟩ := y
        simp only at q0 q1 q2 q3 hwm
        go_wp2_with fail
        go_quiet (fail)
        go_wp2
        go_roundw
        case rel => exact ⟨k + 1, hlt, by go_num, by rw [hst.out], hbd.out _⟩
        case measure => simp [RowKit.intOf]; omega
      · obtain rfl : k = L.length := by omega
        have hlI : ¬ (L.length : Int) < (t.length : Int) := by rw [hl.out]; omega
        replace hb3 := hidden (hbx.out _ hb3)
        go_wp2
        go_ret2
        exact ⟨rfl, hb3.out⟩
def FuRel (F : List Int) (w0 : World) (v i : Value) (w : World) : Prop := ∃ k : Nat, k ≤ F.length ∧ i = .int .i64 (k : Int) ∧ w.ownsRow w0.heap.size 3 1 v k (ivs (F.take k)) ∧ Below w0.heap.size w0 w
set_option maxRecDepth 100000 in
set_option maxHeartbeats 6400000 in
theorem r18Full_any (lv cv : Value) (L : List Lt) (C : List Int) (n : Int) (w : World) (h : PbR w lv cv L C) (hl : L.length ≤ 1000) :
    Calls Tryd.prog 38 #[pbA lv cv n] w fun e w' => ∃ v, e = .returned v ∧ Reads .i64 w' v (full L) ∧ Below w.heap.size w w' := by
  have hb0 := below_pb w pbTyR lv cv n
  have hpb := pbAt_new w pbTyR lv cv n
  have hbx := hidden (fun W (hW : Below (w.alloc (pbO pbTyR lv cv n)).heap.size (w.alloc (pbO pbTyR lv cv n)) W) => hb0.trans (hW.mono hb0.size))
  have hp := hidden (fun W (hW : Below (w.alloc (pbO pbTyR lv cv n)).heap.size (w.alloc (pbO pbTyR lv cv n)) W) => (hpb.below hW (Nat.le_refl _)).cells)
  obtain ⟨la, lc, rfl⟩ := row_slice h.lots
  obtain ⟨ca, cc, rfl⟩ := reads_slice h.caps
  have hx := hidden (fun k hk W (h2 : Below w.heap.size w W) => rowLt_at (h.lots.below ltV_len h2 (Nat.le_refl _)) k hk)
  have hlen := h.len
  have hfl := full_len L
  have hfu := hidden (fun k => full_at L k)
  generalize full L = F at *
  have d0 := (hp.out _ (Below.refl _ _)).1
  clear h hb0 hpb
  go_enter Tryd.func38, Tryd.ntmps38
  go_wp2_with fail
  generalize w.alloc (pbO pbTyR (.slice la L.length lc) (.slice ca C.length cc) n) = wP at *
  go_loopw [3, 4] (fun v i wr => FuRel F wP v i wr) (fun _ i _ => F.length - (RowKit.intOf i).toNat)
  case atStart => exact ⟨0, Nat.zero_le _, rfl, World.ownsRow_nil _ _ _ _, Below.refl _ _⟩
  case round =>
    clear d0
    obtain ⟨k, hk, rfl, hown, hb3⟩ := hrel
    obtain ⟨c0, c1, c2⟩ := hp.out _ hb3
    by_cases hlt : k < F.length
    · obtain ⟨b, o, rfl, q0, q1, q2, q3⟩ := hx.out k (by omega) _ (hbx.out _ hb3)
      have hlI : (k : Int) < (L.length : Int) := by omega
      have htk := hidden (show ivs (F.take k) ++ [.int .i64 (L.getD k ltZ).u] = ivs (F.take (k + 1)) by rw [take_snocI F k hlt, ivs_snoc, hfu.out k])
      have hB := hb3.size
      generalize L.getD k ltZ = y at *
      obtain ⟨u, v, c, gg⟩ := y
      simp only at q0 q1 q2 q3
      replace hown := hidden hown
      replace hb3 := hidden hb3
      go_wp2_with (at_builtin; refine wpList_app1w rfl _ _ 26 rfl 3 Tryd.underlying26 infoI64 rfl wP.heap.size _ _ _ rfl hown.out _ rfl rfl ⟨by omega, by omega⟩ hB ?_)
      intro v2 w2 hown2 hb4
      rw [htk.out] at hown2
      replace hown2 := hidden hown2
      replace hb4 := hidden (hb3.out.trans hb4)
      clear hown
      go_wp2
      go_roundw
      case rel => exact ⟨k + 1, hlt, by go_num, hown2.out, hb4.out⟩
      case measure => simp [RowKit.intOf]; omega
    · obtain rfl : k = F.length := by omega
      rw [List.take_length] at hown
      have hr := hidden (reads_of_own (xs := F) hown)
      have hlI : ¬ (F.length : Int) < (L.length : Int) := by omega
      replace hb3 := hidden (hbx.out _ hb3)
      clear hown
      go_wp2
      go_ret
      exact ⟨_, rfl, hr.out, hb3.out⟩
end Go.Proofs.YtpfieoemojnioaaDoor
