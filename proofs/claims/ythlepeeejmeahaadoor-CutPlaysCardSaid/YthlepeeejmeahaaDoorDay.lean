/-
  What the calls of package day answer.
-/
import Derived.Test.YthlepeeejmeahaaDoorDayMath
import Derived.Test.YthlepeeejmeahaaDoorErr
import Derived.Deep.QuietTactic
import Derived.BigQuiet
namespace Go.Proofs.YthlepeeejmeahaaDoor
open Go.RowKit
set_option linter.unusedVariables false

theorem tmod_zero (y k : Int) (b : Bool) (h : (y % k == 0) = b) : (y.tmod k == 0) = b := by
  rw [← h, Bool.eq_iff_iff, beq_iff_eq, beq_iff_eq, ← Int.dvd_iff_emod_eq_zero, ← Int.dvd_iff_tmod_eq_zero]
theorem tmod_some (y k : Int) (b : Bool) (h : (y % k == 0) = b) : (y.tmod k != 0) = !b := by
  rw [bne, tmod_zero y k b h]
theorem lp_of (y : Int) (b4 b100 b400 : Bool) (h4 : (y % 4 == 0) = b4) (h100 : (y % 100 == 0) = b100) (h400 : (y % 400 == 0) = b400) : (b4 && (!b100 || b400)) = lpB y := by
  subst h4; subst h100; subst h400
  unfold lpB
  rw [Bool.eq_iff_iff]
  simp

theorem dmo_feb (y : Int) : dmo y 2 = if lpB y = true then 29 else 28 := rfl
theorem wk_of (n : Int) : (n.tmod 7 + 6) % 7 = wkD n := by
  unfold wkD
  have := Int.tmod_eq_emod (a := n) (b := 7)
  by_cases h : 0 ≤ n ∨ (7 : Int) ∣ n
  · rw [if_pos h] at this; omega
  · rw [if_neg h] at this; simp at this; omega
theorem tmod7_bd (n : Int) : -6 ≤ n.tmod 7 ∧ n.tmod 7 ≤ 6 := by
  have := Int.tmod_eq_emod (a := n) (b := 7)
  by_cases h : 0 ≤ n ∨ (7 : Int) ∣ n
  · rw [if_pos h] at this; omega
  · rw [if_neg h] at this; simp at this; omega
/-- the greatest number of 64 bits. -/
def lfV (e t : Int) : Int := if e = 0 ∨ e ≤ t then 0 else if 9223372036854775807 < e - t then 9223372036854775807 else e - t
def lfB (e t : Int) : Bool := decide (e = 0 ∨ t < e)
theorem left_any (e t : Int) (w : World) (h1 : -9223372036854775808 ≤ e) (h2 : e ≤ 9223372036854775807) (h3 : -9223372036854775808 ≤ t) (h4 : t ≤ 9223372036854775807) :
    Calls Tryd.prog 36 #[.int .i64 e, .int .i64 t] w fun r w' => r = .returned (.tuple #[.int .i64 (lfV e t), .bool (lfB e t)]) ∧ w = w' := by
  by_cases e0 : e = 0
  · subst e0
    have d1 := hidden (show lfV 0 t = 0 by unfold lfV; rw [if_pos (.inl rfl)])
    have d2 := hidden (show lfB 0 t = true by unfold lfB; simp)
    go_enter Tryd.func36, Tryd.ntmps36
    go_wp2
    go_ret2
    exact ⟨ret_ib d1.out.symm d2.out.symm, rfl⟩
  · have k0 : (e == 0) = false := beq_eq_false_iff_ne.2 e0
    by_cases hle : e ≤ t
    · have d1 := hidden (show lfV e t = 0 by unfold lfV; rw [if_pos (.inr hle)])
      have d2 := hidden (show lfB e t = false by unfold lfB; rw [decide_eq_false_iff_not]; omega)
      clear e0
      go_enter Tryd.func36, Tryd.ntmps36
      go_wp2
      go_ret2
      exact ⟨ret_ib d1.out.symm d2.out.symm, rfl⟩
    · have d2 := hidden (show lfB e t = true by unfold lfB; rw [decide_eq_true_iff]; omega)
      by_cases hb : 9223372036854775807 < e - t
      · have d1 := hidden (show lfV e t = 9223372036854775807 by unfold lfV; rw [if_neg (by omega), if_pos hb])
        have hw : IntKind.i64.wrap (e - t) = e - t - 18446744073709551616 := by simp [IntKind.wrap, IntKind.bits, IntKind.signed]; omega
        have hn : e - t - 18446744073709551616 < 0 := by omega
        clear e0
        go_enter Tryd.func36, Tryd.ntmps36
        go_wp2
        go_ret2
        exact ⟨ret_ib d1.out.symm d2.out.symm, rfl⟩
      · have d1 := hidden (show lfV e t = e - t by unfold lfV; rw [if_neg (by omega), if_neg hb])
        have hn : 0 ≤ e - t := by omega
        have hb' : e - t ≤ 9223372036854775807 := by omega
        clear e0 hb
        go_enter Tryd.func36, Tryd.ntmps36
        go_wp2
        go_ret2
        exact ⟨ret_ib d1.out.symm d2.out.symm, rfl⟩

/-- the table of buckets is there. -/
def EndsOn (w : World) : Prop := w.cell? ⟨1, 0, none⟩ = some (.int .i64 30) ∧ w.cell? ⟨1, 1, none⟩ = some (.int .i64 90) ∧ w.cell? ⟨1, 2, none⟩ = some (.int .i64 365) ∧ w.cell? ⟨1, 3, none⟩ = some (.int .i64 1095) ∧ w.cell? ⟨1, 4, none⟩ = some (.int .i64 3650)
theorem EndsOn.same {w w' : World} (h : EndsOn w) (hb : ∀ i, i < w.heap.size → w'.heap[i]? = w.heap[i]?) : EndsOn w' := by
  obtain ⟨h0, h1, h2, h3, h4⟩ := h
  have key : ∀ (j : Nat) v, w.cell? ⟨1, j, none⟩ = some v → w'.cell? ⟨1, j, none⟩ = some v := fun j v h => by
    rw [World.cell?_of_block (w := w) (hb _ (World.block_lt_of_cell? w _ h))]; exact h
  exact ⟨key _ _ h0, key _ _ h1, key _ _ h2, key _ _ h3, key _ _ h4⟩
theorem EndsOn.below {w w' : World} {B : Nat} (h : EndsOn w) (hb : Below B w w') (hB : w.heap.size ≤ B) : EndsOn w' := h.same fun i hi => hb.block i (by omega)
theorem EndsOn.drewN {w : World} (h : EndsOn w) (k : Nat) : EndsOn (w.drewN k) := h.same fun _ _ => rfl

theorem ends_at0 (w : World) : (Instr.index 85 (.agg #[.int .i64 30, .int .i64 90, .int .i64 365, .int .i64 1095, .int .i64 3650]) (.int .i64 0)).run Tryd.prog w = .ok (.int .i64 30) w := by kernel_rfl
theorem ends_at1 (w : World) : (Instr.index 85 (.agg #[.int .i64 30, .int .i64 90, .int .i64 365, .int .i64 1095, .int .i64 3650]) (.int .i64 1)).run Tryd.prog w = .ok (.int .i64 90) w := by kernel_rfl
theorem ends_at2 (w : World) : (Instr.index 85 (.agg #[.int .i64 30, .int .i64 90, .int .i64 365, .int .i64 1095, .int .i64 3650]) (.int .i64 2)).run Tryd.prog w = .ok (.int .i64 365) w := by kernel_rfl
theorem ends_at3 (w : World) : (Instr.index 85 (.agg #[.int .i64 30, .int .i64 90, .int .i64 365, .int .i64 1095, .int .i64 3650]) (.int .i64 3)).run Tryd.prog w = .ok (.int .i64 1095) w := by kernel_rfl
theorem ends_at4 (w : World) : (Instr.index 85 (.agg #[.int .i64 30, .int .i64 90, .int .i64 365, .int .i64 1095, .int .i64 3650]) (.int .i64 4)).run Tryd.prog w = .ok (.int .i64 3650) w := by kernel_rfl
def BkRel (n : Int) (i : Value) : Prop := i = .int .i64 0 ∨ (i = .int .i64 1 ∧ 30 ≤ n) ∨ (i = .int .i64 2 ∧ 90 ≤ n) ∨ (i = .int .i64 3 ∧ 365 ≤ n) ∨ (i = .int .i64 4 ∧ 1095 ≤ n) ∨ (i = .int .i64 5 ∧ 3650 ≤ n)
theorem bucket_any (n : Int) (w : World) (hE : EndsOn w) :
    Calls Tryd.prog 37 #[.int .i64 n] w fun e w' => e = .returned (.int .i64 (bkD n)) ∧ w = w' := by
  obtain ⟨c0, c1, c2, c3, c4⟩ := hE
  have i0 := ends_at0
  have i1 := ends_at1
  have i2 := ends_at2
  have i3 := ends_at3
  have i4 := ends_at4
  go_enter Tryd.func37, Tryd.ntmps37
  go_wp2
  go_loop [6] (fun i => BkRel n i) (fun i => 5 - (intOf i).toNat)
  case atStart => exact .inl rfl
  case round =>
    rcases hrel with rfl | ⟨rfl, h⟩ | ⟨rfl, h⟩ | ⟨rfl, h⟩ | ⟨rfl, h⟩ | ⟨rfl, h⟩
    · by_cases hlt : n < 30
      · have hd := hidden (show bkD n = 0 by unfold bkD; rw [if_pos hlt])
        go_wp2
        go_ret
        exact ⟨ret_int hd.out.symm, rfl⟩
      · go_wp2
        go_round
        case rel => exact .inr (.inl ⟨rfl, by omega⟩)
        case measure => simp [intOf]
    · by_cases hlt : n < 90
      · have hd := hidden (show bkD n = 1 by unfold bkD; rw [if_neg (by omega), if_pos hlt])
        go_wp2
        go_ret
        exact ⟨ret_int hd.out.symm, rfl⟩
      · go_wp2
        go_round
        case rel => exact .inr (.inr (.inl ⟨rfl, by omega⟩))
        case measure => simp [intOf]
    · by_cases hlt : n < 365
      · have hd := hidden (show bkD n = 2 by unfold bkD; rw [if_neg (by omega), if_neg (by omega), if_pos hlt])
        go_wp2
        go_ret
        exact ⟨ret_int hd.out.symm, rfl⟩
      · go_wp2
        go_round
        case rel => exact .inr (.inr (.inr (.inl ⟨rfl, by omega⟩)))
        case measure => simp [intOf]
    · by_cases hlt : n < 1095
      · have hd := hidden (show bkD n = 3 by unfold bkD; rw [if_neg (by omega), if_neg (by omega), if_neg (by omega), if_pos hlt])
        go_wp2
        go_ret
        exact ⟨ret_int hd.out.symm, rfl⟩
      · go_wp2
        go_round
        case rel => exact .inr (.inr (.inr (.inr (.inl ⟨rfl, by omega⟩))))
        case measure => simp [intOf]
    · by_cases hlt : n < 3650
      · have hd := hidden (show bkD n = 4 by unfold bkD; rw [if_neg (by omega), if_neg (by omega), if_neg (by omega), if_neg (by omega), if_pos hlt])
        go_wp2
        go_ret
        exact ⟨ret_int hd.out.symm, rfl⟩
      · go_wp2
        go_round
        case rel => exact .inr (.inr (.inr (.inr (.inr ⟨rfl, by omega⟩))))
        case measure => simp [intOf]
    · have hd := hidden (show bkD n = 5 by unfold bkD; rw [if_neg (by omega), if_neg (by omega), if_neg (by omega), if_neg (by omega), if_neg (by omega)])
      go_wp2
      go_ret
      exact ⟨ret_int hd.out.symm, rfl⟩
end Go.Proofs.YthlepeeejmeahaaDoor
