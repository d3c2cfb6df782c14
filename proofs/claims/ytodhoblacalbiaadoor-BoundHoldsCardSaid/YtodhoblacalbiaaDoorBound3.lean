/-
  Least, Can.
-/
import Derived.Test.YtodhoblacalbiaaDoorBound2
namespace Go.Proofs.YtodhoblacalbiaaDoor
open Go.RowKit
set_option linter.unusedVariables false

/-- what is told of the least; whether. -/
def lsV (L : List Lt) (k : Nat) (left : Int) : Int := if left ≤ 0 then 0 else divAns left (chL L k).c (chL L k).v true
def lsB (L : List Lt) (k : Nat) (left : Int) : Bool := if left ≤ 0 then true else divOk left (chL L k).c (chL L k).v true
theorem divOk_zero (a b : Int) (up : Bool) : divOk a b 0 up = false := rfl
theorem divAns_zero (a b : Int) (up : Bool) : divAns a b 0 up = 0 := rfl
set_option maxRecDepth 100000 in
set_option maxHeartbeats 3200000 in
theorem least_yes (A : Nat → Addr) (lv cv : Value) (L : List Lt) (C : List Int) (n : Int) (k : Nat) (left : Int) (w : World) (h : PbR w lv cv L C) (hE : ErrsOn [2, 4] w A) (hok : OkP L C n) (hk : k ≤ L.length) (h0 : -9223372036854775808 ≤ left) (h1 : left ≤ 9223372036854775807) :
    Calls Tryd.prog 8 #[pbA lv cv n, .int .i64 (k : Int), .int .i64 left] w fun e w' => e = .returned (.tuple #[.int .i64 (lsV L k left), .bool (lsB L k left)]) ∧ Below w.heap.size w w' := by
  have hb0 := below_pb w pbTy lv cv n
  have hR := rest_yes A lv cv L C n k _ (h.below hb0 (Nat.le_refl _)) (hE.below hb0 (Nat.le_refl _)) hok hk
  unfold RestAt at hR
  replace hR := hidden hR
  obtain ⟨c0, c1, c2⟩ := (pbAt_new w pbTy lv cv n).cells
  have hb := hidden hb0
  have hbig : ∀ x ∈ L.drop k, ltBig x := fun x hx => h.big x (List.mem_of_mem_drop hx)
  have hC := hidden (fun W v hr => cheapest_any19 W v (L.drop k) hr hbig)
  have hyb := chT_big (L.drop k) hbig _ (Nat.le_refl _)
  have hD := hidden (fun W => div_any left (chL L k).c (chL L k).v true W h0 h1 hyb.2.2.1.1 hyb.2.2.1.2 hyb.2.1.2)
  have e1 : chT (L.drop k) (L.drop k).length = chL L k := rfl
  rw [e1] at hC
  clear h hE hok hb0 hbig hyb e1
  unfold lsV lsB
  by_cases hl : left ≤ 0
  · rw [if_pos hl, if_pos hl]
    go_enter Tryd.func8, Tryd.ntmps8
    go_wp2_with fail
    (with_reducible refine hR.out.mono ?_)
    rintro r w1 ⟨v, rfl, hrow, hb1⟩
    have hb2 := hidden (hb.out.trans (hb1.mono hb.out.size))
    clear hR hrow hb1 hC hD
    go_wp2
    go_ret2
    exact ⟨rfl, hb2.out⟩
  · rw [if_neg hl, if_neg hl]
    generalize chL L k = y at *
    by_cases hy : y.v = 0
    · obtain ⟨yu, yv, yc, yg⟩ := y
      simp only at hy hC hD
      subst hy
      rw [divOk_zero, divAns_zero]
      clear hD
      go_enter Tryd.func8, Tryd.ntmps8
      go_wp2_with fail
      (with_reducible refine hR.out.mono ?_)
      rintro r w1 ⟨v, rfl, hrow, hb1⟩
      have hb2 := hidden (hb.out.trans (hb1.mono hb.out.size))
      have hC1 := hidden (hC.out w1 v hrow)
      clear hR hrow hb1 hC
      go_wp2_with fail
      (with_reducible refine hC1.out.mono ?_)
      rintro r w2 ⟨rfl, hb3⟩
      have hb4 := hidden ((hb2.out.trans (hb3.mono hb2.out.size)).trans ((below_lt w2 ⟨yu, 0, yc, yg⟩).mono (hb2.out.trans (hb3.mono hb2.out.size)).size))
      clear hC1 hb3 hb2
      go_wp2
      go_ret2
      exact ⟨rfl, hb4.out⟩
    · have n1 : (!(y.v == 0)) = true := by simp [hy]
      rw [n1] at hC
      obtain ⟨yu, yv, yc, yg⟩ := y
      simp only at hy hC hD n1
      simp only
      generalize divOk left yc yv true = db at *
      generalize divAns left yc yv true = dv at *
      clear n1
      go_enter Tryd.func8, Tryd.ntmps8
      go_wp2_with fail
      (with_reducible refine hR.out.mono ?_)
      rintro r w1 ⟨v, rfl, hrow, hb1⟩
      have hb2 := hidden (hb.out.trans (hb1.mono hb.out.size))
      have hC1 := hidden (hC.out w1 v hrow)
      clear hR hrow hb1 hC
      go_wp2_with fail
      (with_reducible refine hC1.out.mono ?_)
      rintro r w2 ⟨rfl, hb3⟩
      have hb4 := hidden ((hb2.out.trans (hb3.mono hb2.out.size)).trans ((below_lt w2 ⟨yu, yv, yc, yg⟩).mono (hb2.out.trans (hb3.mono hb2.out.size)).size))
      obtain ⟨⟨cx0, cx1, cx2, cx3⟩, _⟩ := lt_row (heap_alloc_new w2 (ltO ⟨yu, yv, yc, yg⟩))
      clear hC1 hb3 hb2
      go_wp2_with fail
      (with_reducible refine (hD.out _).mono ?_)
      rintro r w3 ⟨rfl, m, rfl⟩
      clear hD
      go_wp2
      go_ret2
      exact ⟨rfl, below_drewN hb4.out⟩
/-- what all units from one on are worth, without caps. -/
def caF (L : List Lt) (k i : Nat) : Int := (L.getD (k + i) ltZ).u * (L.getD (k + i) ltZ).v
def caV (L : List Lt) (k : Nat) : Int := sumF (caF L k) (L.length - k)
theorem caF_bd {L : List Lt} {C : List Int} {n : Int} (h : OkP L C n) {k i : Nat} (hi : k + i < L.length) : 0 ≤ caF L k i ∧ caF L k i ≤ 1000000000000 := by
  have h1 := h.lot hi
  unfold ltOk at h1
  have := prod_bd (a := (L.getD (k + i) ltZ).u) (A := 1000) (b := (L.getD (k + i) ltZ).v) (B := 1000000000) (by omega) (by omega) (by omega) (by omega)
  unfold caF
  omega
theorem caS_bd {L : List Lt} {C : List Int} {n : Int} (h : OkP L C n) {k j : Nat} (hj : k + j ≤ L.length) : 0 ≤ sumF (caF L k) j ∧ sumF (caF L k) j ≤ 8000000000000 := by
  have := sumF_bd (f := caF L k) (M := 1000000000000) (k := j) (fun i hi => caF_bd h (by omega))
  have hL := h.1.1.2
  omega
def CanRel (L : List Lt) (k m : Nat) (w0 : World) (s i : Value) (w : World) : Prop := ∃ j : Nat, j ≤ m ∧ i = .int .i64 (j : Int) ∧ s = .int .i64 (sumF (caF L k) j) ∧ Below w0.heap.size w0 w
set_option maxRecDepth 100000 in
set_option maxHeartbeats 3200000 in
theorem can_yes (A : Nat → Addr) (lv cv : Value) (L : List Lt) (C : List Int) (n : Int) (k : Nat) (left : Int) (w : World) (h : PbR w lv cv L C) (hE : ErrsOn [2, 4] w A) (hok : OkP L C n) (hk : k ≤ L.length) :
    Calls Tryd.prog 9 #[pbA lv cv n, .int .i64 (k : Int), .int .i64 left] w fun e w' => e = .returned (.bool (decide (left ≤ caV L k))) ∧ Below w.heap.size w w' := by
  have hb0 := below_pb w pbTy lv cv n
  have hR := rest_yes A lv cv L C n k _ (h.below hb0 (Nat.le_refl _)) (hE.below hb0 (Nat.le_refl _)) hok hk
  unfold RestAt at hR
  replace hR := hidden hR
  obtain ⟨c0, c1, c2⟩ := (pbAt_new w pbTy lv cv n).cells
  have hb := hidden hb0
  have hbd := hidden (fun j (hj : k + j ≤ L.length) => caS_bd hok hj)
  have hfd := hidden (fun j (hj : k + j < L.length) => caF_bd hok hj)
  have hlt8 := hok.1.1.2
  have hm : (L.drop k).length = L.length - k := List.length_drop
  clear h hE hok hb0
  unfold caV
  go_enter Tryd.func9, Tryd.ntmps9
  go_wp2_with fail
  (with_reducible refine hR.out.mono ?_)
  rintro r w1 ⟨v, rfl, hrow, hb1⟩
  have hb2 := hidden (hb.out.trans (hb1.mono hb.out.size))
  obtain ⟨la, lc, rfl⟩ := row_slice hrow
  rw [hm] at hrow ⊢
  have hx := hidden (fun j hj W (h2 : Below w1.heap.size w1 W) => rowLt_at (hrow.below ltV_len h2 (Nat.le_refl _)) j hj)
  have hd : ∀ j, (L.drop k).getD j ltZ = L.getD (k + j) ltZ := fun j => by rw [List.getD_eq_getElem?_getD, List.getD_eq_getElem?_getD, List.getElem?_drop]
  replace hd := hidden hd
  have hm8 : L.length - k ≤ 8 := by omega
  generalize hmm : L.length - k = m at *
  replace hm := hidden hm
  replace hmm := hidden hmm
  clear hR hrow hb1
  go_wp2_with fail
  go_loopw [9, 20] (fun s i wr => CanRel L k m w1 s i wr) (fun _ i _ => m - (RowKit.intOf i).toNat)
  case atStart => exact ⟨0, Nat.zero_le _, rfl, rfl, Below.refl _ _⟩
  case round =>
    obtain ⟨j, hj, rfl, rfl, hB⟩ := hrel
    by_cases hlt : j < m
    · obtain ⟨b, o, rfl, q0, q1, q2, q3⟩ := hx.out j hlt _ hB
      rw [hd.out] at q0 q1 q2 q3
      have hlI : (j : Int) < (m : Int) := by omega
      have hS := hidden (show sumF (caF L k) (j + 1) = sumF (caF L k) j + (L.getD (k + j) ltZ).u * (L.getD (k + j) ltZ).v from rfl)
      have s0 := hbd.out j (by have := hmm.out; omega)
      have s1 := hbd.out (j + 1) (by have := hmm.out; omega)
      have f0 := hfd.out j (by have := hmm.out; omega)
      rw [hS.out] at s1
      unfold caF at f0
      have hBn := hidden (hB.trans ((below_lt wr (L.getD (k + j) ltZ)).mono hB.size))
      obtain ⟨⟨cx0, cx1, cx2, cx3⟩, _⟩ := lt_row (heap_alloc_new wr (ltO (L.getD (k + j) ltZ)))
      generalize hs : sumF (caF L k) j = s at *
      replace hs := hidden hs
      generalize L.getD (k + j) ltZ = x at *
      obtain ⟨xu, xv, xc, xg⟩ := x
      simp only at q0 q1 q2 q3 cx0 cx1 cx2 cx3 f0 s1
      have hw1 : IntKind.i64.wrap (xu * xv) = xu * xv := by rw [IntKind.wrap_i64]; omega
      have hw2 : IntKind.i64.wrap (s + xu * xv) = s + xu * xv := by rw [IntKind.wrap_i64]; omega
      clear hx hbd hfd hB hb2
      go_wp2
      go_roundw
      case rel => exact ⟨j + 1, hlt, by go_num, by rw [hS.out], hBn.out⟩
      case measure => simp [RowKit.intOf]; omega
    · obtain rfl : j = m := by omega
      have hb3 := hidden (hb2.out.trans (hB.mono hb2.out.size))
      clear hx hbd hfd hB hb2
      generalize hs : sumF (caF L k) j = s at *
      replace hs := hidden hs
      go_wp2
      go_ret
      exact ⟨by rw [hmm.out, hs.out]; rfl, hb3.out⟩
end Go.Proofs.YtodhoblacalbiaaDoor
