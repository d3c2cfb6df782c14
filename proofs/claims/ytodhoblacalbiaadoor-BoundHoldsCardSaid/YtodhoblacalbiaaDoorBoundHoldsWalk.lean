import Derived.Test.YtodhoblacalbiaaDoorBoundLaw
import Derived.Test.YtodhoblacalbiaaDoorPbArg
import Derived.Test.YtodhoblacalbiaaDoorLaidOn
namespace Go.Proofs.YtodhoblacalbiaaDoor
open Go.RowKit
set_option linter.unusedVariables false

theorem sumB_shift (f : Nat → Int) (F : Nat) : ∀ k, sumB f F (F + k) = sumF (fun i => f (F + i)) k
  | 0 => sumB_skip (Nat.le_refl _)
  | k + 1 => by
    have ih := sumB_shift f F k
    show sumB f F (F + k + 1) = sumF (fun i => f (F + i)) k + f (F + k)
    rw [sumB_next (Nat.le_add_right F k), ih]
/-- how many are taken of a lot. -/
def tkB (L : List Lt) (T : List Int) (i : Nat) : Int := if i < T.length then T.getD i 0 % ((L.getD i ltZ).u + 1) else 0
abbrev tvF (L : List Lt) (T : List Int) (i : Nat) : Int := tkB L T i * (L.getD i ltZ).v
abbrev tcF (L : List Lt) (T : List Int) (i : Nat) : Int := tkB L T i * (L.getD i ltZ).c
section
variable {L : List Lt} {C : List Int} {n : Int}
theorem tkB_bd (h : OkP L C n) (T : List Int) {i : Nat} (hi : i < L.length) : 0 ≤ tkB L T i ∧ tkB L T i ≤ (L.getD i ltZ).u := by
  have hl := (h.lot hi).1
  have h1 := Int.emod_nonneg (T.getD i 0) (show (L.getD i ltZ).u + 1 ≠ 0 by omega)
  have h2 := Int.emod_lt_of_pos (T.getD i 0) (show 0 < (L.getD i ltZ).u + 1 by omega)
  unfold tkB
  split <;> omega
theorem tv_bd (h : OkP L C n) (T : List Int) {i : Nat} (hi : i < L.length) : (0 ≤ tvF L T i ∧ tvF L T i ≤ 1000000000000) ∧ (0 ≤ tcF L T i ∧ tcF L T i ≤ 1000000000000) := by
  have hl := h.lot hi
  have ht := tkB_bd h T hi
  unfold ltOk at hl
  have h1 := prod_bd (a := tkB L T i) (A := 1000) (b := (L.getD i ltZ).v) (B := 1000000000) (by omega) (by omega) (by omega) (by omega)
  have h2 := prod_bd (a := tkB L T i) (A := 1000) (b := (L.getD i ltZ).c) (B := 1000000000) (by omega) (by omega) (by omega) (by omega)
  exact ⟨⟨h1.1, h1.2⟩, ⟨h2.1, h2.2⟩⟩
theorem tvS_bd (h : OkP L C n) (T : List Int) (F : Nat) {k : Nat} (hk : k ≤ L.length) : (0 ≤ sumB (tvF L T) F k ∧ sumB (tvF L T) F k ≤ 8000000000000) ∧ (0 ≤ sumB (tcF L T) F k ∧ sumB (tcF L T) F k ≤ 8000000000000) := by
  have h1 := sumB_bd (f := tvF L T) (M := 1000000000000) (by omega) (from_ := F) (k := k) (fun i _ hi => (tv_bd h T (by omega)).1)
  have h2 := sumB_bd (f := tcF L T) (M := 1000000000000) (by omega) (from_ := F) (k := k) (fun i _ hi => (tv_bd h T (by omega)).2)
  have hL := h.1.1.2
  omega
theorem holds_ways (h : OkP L C n) (T : List Int) {F : Nat} (hF : F ≤ L.length) : lsB L F (sumB (tvF L T) F L.length) = true ∧ lsV L F (sumB (tvF L T) F L.length) ≤ sumB (tcF L T) F L.length ∧ sumB (tvF L T) F L.length ≤ caV L F ∧ caV L F ≤ 8000000000000 := by
  obtain ⟨⟨v0, v1⟩, ⟨c0, c1⟩⟩ := tvS_bd h T F (Nat.le_refl L.length)
  have hca : caV L F = sumB (fun i => (L.getD i ltZ).u * (L.getD i ltZ).v) F L.length := by
    have := sumB_shift (fun i => (L.getD i ltZ).u * (L.getD i ltZ).v) F (L.length - F)
    rw [show F + (L.length - F) = L.length by omega] at this
    rw [this]
    rfl
  have hle : sumB (tvF L T) F L.length ≤ caV L F := by
    rw [hca]
    exact sumB_le fun i _ hi => Int.mul_le_mul_of_nonneg_right (tkB_bd h T hi).2 (h.lot hi).2.1.1
  have hcb := (caS_bd h (k := F) (j := L.length - F) (by omega)).2
  have ht : ∀ i, F ≤ i → i < L.length → 0 ≤ tkB L T i ∧ tkB L T i ≤ (L.getD i ltZ).u := fun i _ hi => tkB_bd h T hi
  by_cases hz : sumB (tvF L T) F L.length ≤ 0
  · obtain ⟨q1, q2⟩ := ls_zero (L := L) F hz
    exact ⟨q1, by rw [q2]; exact c0, hle, hcb⟩
  · obtain ⟨r, hr⟩ := bound_rate h (t := tkB L T) ht (by show 0 < sumB (tvF L T) F L.length; omega)
    have hb := bound_holds h hr (t := tkB L T) ht
    obtain ⟨q1, _, _, q4⟩ := ls_some h hF hr (left := sumB (tvF L T) F L.length) (K := sumB (tcF L T) F L.length) (by omega) hb (by omega)
    exact ⟨q1, q4, hle, hcb⟩
end
def HoldRel19 (L : List Lt) (T : List Int) (F : Nat) (w0 : World) (a b i : Value) (w : World) : Prop :=
  ∃ k : Nat, F ≤ k ∧ k ≤ L.length ∧ i = .int .i64 (k : Int) ∧ a = .int .i64 (sumB (tvF L T) F k) ∧ b = .int .i64 (sumB (tcF L T) F k) ∧ Below w0.heap.size w0 w
set_option maxRecDepth 100000 in
set_option maxHeartbeats 12800000 in
theorem walk_boundHolds (p : PbX) (tv : Value) (T : List Int) (f : Int) (A : Nat → Addr) (w : World) (hp : PbIs w p) (hr : Reads .i64 w tv T) (hT : ∀ x ∈ T, -9223372036854775808 ≤ x ∧ x ≤ 9223372036854775807) (f0 : -9223372036854775808 ≤ f) (f1 : f ≤ 9223372036854775807) (hS : SentsOn [2, 4] w A) :
    Calls Tryd.prog 3 #[pbA p.lv p.cv p.n, tv, .int .i64 f] w fun r w' => r = .returned (.bool true) ∧ Below w.heap.size w w' := by
  obtain ⟨lv, cv, L, C, n⟩ := p
  obtain ⟨hpr, hnd⟩ := hp
  simp only at hpr hnd
  have hb0 := below_pb w pbTy lv cv n
  have hpb := pbAt_new w pbTy lv cv n
  have hbx := hidden (fun W (hW : Below (w.alloc (pbO pbTy lv cv n)).heap.size (w.alloc (pbO pbTy lv cv n)) W) => hb0.trans (hW.mono hb0.size))
  have hc := hidden (fun W (hW : Below (w.alloc (pbO pbTy lv cv n)).heap.size (w.alloc (pbO pbTy lv cv n)) W) => (hpb.below hW (Nat.le_refl _)).cells)
  have hE := hidden (fun W (hW : Below (w.alloc (pbO pbTy lv cv n)).heap.size (w.alloc (pbO pbTy lv cv n)) W) => hS.on.below (hbx.out W hW) (Nat.le_refl _))
  have hR := hidden (fun W (hW : Below (w.alloc (pbO pbTy lv cv n)).heap.size (w.alloc (pbO pbTy lv cv n)) W) => hpr.below (hbx.out W hW) (Nat.le_refl _))
  have hF := hidden (law19_first A _ (hE.out _ (Below.refl _ _)))
  have hVa := hidden (fun W hW => ltValid_any A lv cv L C n W (hR.out W hW) (hE.out W hW))
  have hLe := hidden (fun W hW k left hok hk h0 h1 => least_yes A lv cv L C n k left W (hR.out W hW) (hE.out W hW) hok hk h0 h1)
  have hCa := hidden (fun W hW k left hok hk => can_yes A lv cv L C n k left W (hR.out W hW) (hE.out W hW) hok hk)
  obtain ⟨la, lc, rfl⟩ := row_slice hpr.lots
  obtain ⟨ta, tc, rfl⟩ := reads_slice hr
  have hx := hidden (fun k hk W hW => rowLt_at (hR.out W hW).lots k hk)
  have ht := hidden (fun k hk W (hW : Below (w.alloc (pbO pbTy (.slice la L.length lc) cv n)).heap.size (w.alloc (pbO pbTy (.slice la L.length lc) cv n)) W) => (hr.below (hbx.out W hW) (Nat.le_refl _)).cell k hk)
  have hTb := hidden (fun k (hk : k < T.length) => show -9223372036854775808 ≤ T.getD k 0 ∧ T.getD k 0 ≤ 9223372036854775807 from by rw [List.getD_eq_getElem?_getD, List.getElem?_eq_getElem hk]; exact hT _ (List.getElem_mem hk))
  have hlen := hpr.len.1
  have hTm : (T.length : Int) ≤ 9223372036854775807 := by
    obtain ⟨_, _, _, e, _, h4, h5, _⟩ := hr
    unfold maxLen at h5
    omega
  have nF := hidden (fun W (h8 : L.length ≤ 8) => number_any f ((L.length : Int) + 1) W f0 f1 (by omega) (by omega))
  clear hpr hS hb0 hpb f0 f1 hr hT
  have d0 := (hc.out _ (Below.refl _ _)).1
  have d1 := (hc.out _ (Below.refl _ _)).2.1
  have d2 := (hc.out _ (Below.refl _ _)).2.2
  go_enter Tryd.func3, Tryd.ntmps3
  go_wp2_with fail
  generalize w.alloc (pbO pbTy (.slice la L.length lc) cv n) = wP at *
  (with_reducible refine hF.out.mono ?_)
  rintro r w1 ⟨rfl, hb1⟩
  obtain ⟨c0, c1, c2⟩ := hc.out _ hb1
  have hV2 := hidden (hVa.out _ hb1)
  replace hb1 := hidden hb1
  clear hF d0 d1 d2 hVa
  by_cases h20 : (L.length : Int) ≤ 20
  · by_cases hok : OkP L C n
    · rw [pbC_ok hok, errOf_fine] at hV2
      by_cases hT20 : (T.length : Int) ≤ 20
      · have nF1 := hidden (fun W => nF.out W hok.1.1.2)
        have hL8 := hok.1.1.2
        obtain ⟨F, hF⟩ : ∃ F : Nat, f % ((L.length : Int) + 1) = (F : Int) := ⟨(f % ((L.length : Int) + 1)).toNat, by have := Int.emod_nonneg f (show (L.length : Int) + 1 ≠ 0 by omega); omega⟩
        have hFl : F ≤ L.length := by have := Int.emod_lt_of_pos f (show 0 < (L.length : Int) + 1 by omega); omega
        rw [hF] at nF1
        clear hF nF
        obtain ⟨y1, y2, y3, y4⟩ := holds_ways hok T hFl
        have hbd := hidden (fun k (hk : k ≤ L.length) => tvS_bd hok T F hk)
        have hkb := hidden (fun k (hk : k < L.length) => tkB_bd hok T hk)
        have hvb := hidden (fun k (hk : k < L.length) => tv_bd hok T hk)
        have hub := hidden (fun k (hk : k < L.length) => (hok.lot hk).1)
        have hlb := hbd.out L.length (Nat.le_refl _)
        have hLs := hidden (fun W hW => hLe.out W hW F (sumB (tvF L T) F L.length) hok hFl (by omega) (by omega))
        have hC1 := hidden (fun W hW => hCa.out W hW F (sumB (tvF L T) F L.length) hok hFl)
        have hC2 := hidden (fun W hW => hCa.out W hW F 4611686018427387904 hok hFl)
        rw [y1] at hLs
        rw [decide_eq_true y3] at hC1
        rw [show decide (4611686018427387904 ≤ caV L F) = false from decide_eq_false (by omega)] at hC2
        generalize lsV L F (sumB (tvF L T) F L.length) = n1 at *
        have hFI : (F : Int) ≤ (L.length : Int) := by omega
        have hLI : (L.length : Int) ≤ 8 := by omega
        clear hLe hCa hR hE hok y1 y3 y4
        go_wp2_with fail
        (with_reducible refine hV2.out.mono ?_)
        rintro r w2 ⟨rfl, hb2⟩
        replace hb2 := hidden (hb1.out.trans (hb2.mono hb1.out.size))
        obtain ⟨c0, c1, c2⟩ := hc.out _ hb2.out
        clear hV2 hb1
        go_wp2_with (go_at_call 7; (with_reducible refine (nF1.out _).mono ?_); rintro e w' ⟨rfl, rfl⟩)
        go_loopw [8, 9, 10] (fun a b i wr => HoldRel19 L T F wP a b i wr) (fun _ _ i _ => L.length - (RowKit.intOf i).toNat)
        case atStart => exact ⟨F, Nat.le_refl _, hFl, rfl, by rw [sumB_skip (Nat.le_refl _)], by rw [sumB_skip (Nat.le_refl _)], hb2.out⟩
        case round =>
          clear hb2 c0 c1 c2 nF1
          obtain ⟨k, hFk, hk, rfl, rfl, rfl, hB⟩ := hrel
          obtain ⟨c0, c1, c2⟩ := hc.out _ hB
          by_cases hlt : k < L.length
          · obtain ⟨b, o, rfl, q0, q1, q2, q3⟩ := hx.out k hlt _ hB
            have hlI : (k : Int) < (L.length : Int) := by omega
            have hN1 := hidden (show sumB (tvF L T) F (k + 1) = sumB (tvF L T) F k + tkB L T k * (L.getD k ltZ).v from sumB_next hFk)
            have hN2 := hidden (show sumB (tcF L T) F (k + 1) = sumB (tcF L T) F k + tkB L T k * (L.getD k ltZ).c from sumB_next hFk)
            obtain ⟨⟨s0, s1⟩, ⟨s2, s3⟩⟩ := hbd.out k hk
            obtain ⟨⟨p0, p1⟩, ⟨p2, p3⟩⟩ := hbd.out (k + 1) hlt
            rw [hN1.out] at p0 p1
            rw [hN2.out] at p2 p3
            obtain ⟨⟨m0, m1⟩, ⟨m2, m3⟩⟩ := hvb.out k hlt
            obtain ⟨t0, t1⟩ := hkb.out k hlt
            obtain ⟨u0, u1⟩ := hub.out k hlt
            have hw1 : IntKind.i64.wrap (tkB L T k * (L.getD k ltZ).v) = tkB L T k * (L.getD k ltZ).v := by rw [IntKind.wrap_i64]; unfold tvF at m0 m1; omega
            have hw2 : IntKind.i64.wrap (tkB L T k * (L.getD k ltZ).c) = tkB L T k * (L.getD k ltZ).c := by rw [IntKind.wrap_i64]; unfold tcF at m2 m3; omega
            have hw3 : IntKind.i64.wrap (sumB (tvF L T) F k + tkB L T k * (L.getD k ltZ).v) = sumB (tvF L T) F k + tkB L T k * (L.getD k ltZ).v := by rw [IntKind.wrap_i64]; omega
            have hw4 : IntKind.i64.wrap (sumB (tcF L T) F k + tkB L T k * (L.getD k ltZ).c) = sumB (tcF L T) F k + tkB L T k * (L.getD k ltZ).c := by rw [IntKind.wrap_i64]; omega
            have hBm := hidden (fun m => below_drewN (m := m) hB)
            clear m0 m1 m2 m3 p0 p1 p2 p3 hx hvb hkb hub hbd hLs hC1 hC2 hlb
            generalize sumB (tvF L T) F k = S at *
            generalize sumB (tcF L T) F k = Q at *
            by_cases hkT : k < T.length
            · have htk : tkB L T k = T.getD k 0 % ((L.getD k ltZ).u + 1) := if_pos hkT
              obtain ⟨bt, ot, rfl, ct⟩ := ht.out k hkT _ hB
              obtain ⟨g0, g1⟩ := hTb.out k hkT
              have hkTI : (k : Int) < (T.length : Int) := by omega
              have nT := hidden (fun W => show Calls Tryd.prog 7 #[.int .i64 (T.getD k 0), .int .i64 ((L.getD k ltZ).u + 1)] W (fun e w' => e = .returned (.int .i64 (tkB L T k)) ∧ w' = W) from by
                rw [htk]
                exact (number_any (T.getD k 0) ((L.getD k ltZ).u + 1) W g0 g1 (by omega) (by omega)).mono fun e w' h => ⟨h.1, h.2.symm⟩)
              clear htk
              generalize tkB L T k = t at *
              generalize T.getD k 0 = z at *
              generalize L.getD k ltZ = x at *
              obtain ⟨xu, xv, xc, xg⟩ := x
              simp only at q0 q1 q2 q3 hw1 hw2 hw3 hw4 t0 t1 u0 u1 nT
              clear ht hTb hB
              go_wp2_with fail
              go_quiet ((go_at_call 7; exact Calls.quiet_of_same (nT.out _)))
              go_wp2
              go_roundw
              case rel => exact ⟨k + 1, by omega, hlt, by go_num, by rw [hN1.out], by rw [hN2.out], hBm.out _⟩
              case measure => simp [RowKit.intOf]; omega
            · have htk : tkB L T k = 0 := if_neg hkT
              have hkTI : (T.length : Int) ≤ (k : Int) := by omega
              rw [htk] at hw1 hw2 hw3 hw4 hN1 hN2
              generalize L.getD k ltZ = x at *
              obtain ⟨xu, xv, xc, xg⟩ := x
              simp only [Int.zero_mul, Int.add_zero] at q0 q1 q2 q3 hw1 hw2 hw3 hw4 t0 t1 u0 u1 hN1 hN2
              replace hB := hidden hB
              clear ht hTb htk t0 t1 hBm
              go_wp2
              go_roundw
              case rel => exact ⟨k + 1, by omega, hlt, by go_num, by rw [hN1.out], by rw [hN2.out], hB.out⟩
              case measure => simp [RowKit.intOf]; omega
          · obtain rfl : k = L.length := by omega
            have hL5 := hidden (hLs.out _ hB)
            replace hB := hidden hB
            clear hx hvb hkb hub hbd hLs ht hTb
            generalize sumB (tvF L T) F L.length = S at *
            generalize sumB (tcF L T) F L.length = Q at *
            go_wp2_with fail
            (with_reducible refine hL5.out.mono ?_)
            rintro r w4 ⟨rfl, hb4⟩
            replace hb4 := hidden (hB.out.trans (hb4.mono hB.out.size))
            obtain ⟨c0, c1, c2⟩ := hc.out _ hb4.out
            have hC4 := hidden (hC1.out _ hb4.out)
            clear hL5 hB hC1
            go_wp2_with fail
            (with_reducible refine hC4.out.mono ?_)
            rintro r w5 ⟨rfl, hb5⟩
            replace hb5 := hidden (hb4.out.trans (hb5.mono hb4.out.size))
            obtain ⟨c0, c1, c2⟩ := hc.out _ hb5.out
            have hC5 := hidden (hC2.out _ hb5.out)
            clear hC4 hb4 hC2
            go_wp2_with fail
            (with_reducible refine hC5.out.mono ?_)
            rintro r w6 ⟨rfl, hb6⟩
            have hend := hidden (hbx.out _ (hb5.out.trans (hb6.mono hb5.out.size)))
            clear hC5 hb5 hb6 hc
            go_wp2
            go_ret
            exact ⟨rfl, hend.out⟩
      · clear hLe hCa hR hE hok nF hx ht hTb
        go_wp2_with fail
        (with_reducible refine hV2.out.mono ?_)
        rintro r w2 ⟨rfl, hb2⟩
        have hend := hidden (hbx.out _ (hb1.out.trans (hb2.mono hb1.out.size)))
        clear hV2 hb2 hb1 hc
        go_wp2
        go_ret
        exact ⟨rfl, hend.out⟩
    · have hne := errOf_pb A hok
      generalize errOf A (pbC L C n) = ev at *
      rcases hne with rfl | rfl
      all_goals
        clear hLe hCa hR hE hok nF hx ht hTb
        go_wp2_with fail
        (with_reducible refine hV2.out.mono ?_)
        rintro r w2 ⟨rfl, hb2⟩
        have hend := hidden (hbx.out _ (hb1.out.trans (hb2.mono hb1.out.size)))
        clear hV2 hb2 hb1 hc
        go_wp2
        go_ret
        exact ⟨rfl, hend.out⟩
  · have hend := hidden (hbx.out _ hb1.out)
    clear hLe hCa hR hE nF hV2 hc hb1 hx ht hTb
    go_wp2
    go_ret
    exact ⟨rfl, hend.out⟩
end Go.Proofs.YtodhoblacalbiaaDoor
