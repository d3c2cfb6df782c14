/-
  What the small calls of package disk answer.
-/
import Derived.Test.YtcjjjoodnddoeaaDoorDiskMem
import Derived.Maps.OwnSet
import Derived.Deep.RegionHeld3
import Derived.Deep.QuietTactic
import Derived.BigQuiet
namespace Go.Proofs.YtcjjjoodnddoeaaDoor
open Go.RowKit Go.Maps
set_option linter.unusedVariables false

theorem arm_any {w : World} {d g m : Nat} {D : Dk} (h : DiskAt w d g m D) (n : Int) (hn : -9223372036854775808 ≤ n) (hn2 : n ≤ 9223372036854775807) :
    Calls Tryd.prog 18 #[.pointer (some ⟨d, 0, none⟩), .int .i64 n] w fun e w' => e = .returned (.tuple #[]) ∧ DiskAt w' d g m (D.arm n) ∧ Trd (dskB d g m) w w' := by
  obtain ⟨cap, ⟨_, _, _, c3, _⟩, fz⟩ := h.five
  have f3 := fz 3
  clear fz
  replace h := hidden h
  go_enter Tryd.func18, Tryd.ntmps18
  go_wp2
  go_end0
  exact ⟨rfl, h.out.setArmed n hn hn2, Trd.setCell _ _ _ (.inl rfl)⟩
theorem has_any {w : World} {d g m : Nat} {D : Dk} (h : DiskAt w d g m D) (i : Int) :
    Calls Tryd.prog 37 #[.pointer (some ⟨d, 0, none⟩), .int .i64 i] w fun e w' => e = .returned (.bool (decide (0 ≤ i ∧ i < D.n))) ∧ w = w' := by
  obtain ⟨cap, ⟨c0, _⟩, _⟩ := h.five
  clear h
  generalize hr : decide (0 ≤ i ∧ i < (D.n : Int)) = r
  by_cases h0 : 0 ≤ i
  · by_cases h1 : i < D.n
    · have hd := hidden (show r = true by rw [← hr]; simp [h0, h1])
      clear hr
      go_enter Tryd.func37, Tryd.ntmps37
      go_wp2
      go_ret
      exact ⟨ret_bool hd.out.symm, rfl⟩
    · have hd := hidden (show r = false by rw [← hr]; simp [h1])
      clear hr
      go_enter Tryd.func37, Tryd.ntmps37
      go_wp2
      go_ret
      exact ⟨ret_bool hd.out.symm, rfl⟩
  · have hd := hidden (show r = false by rw [← hr]; simp [h0])
    clear hr
    have h1 : decide (0 ≤ i) = false := by simp [h0]
    go_enter Tryd.func37, Tryd.ntmps37
    go_wp2
    go_ret
    exact ⟨ret_bool hd.out.symm, rfl⟩
theorem power_pos {D : Dk} (h : 0 < D.armed) : D.power = { D with armed := D.armed - 1, down := D.down || D.armed - 1 == 0 } := by simp [Dk.power, h]
theorem power_neg {D : Dk} (h : ¬ 0 < D.armed) : D.power = D := by simp [Dk.power, h]
theorem powered_any {w : World} {d g m : Nat} {D : Dk} (h : DiskAt w d g m D) :
    Calls Tryd.prog 36 #[.pointer (some ⟨d, 0, none⟩)] w fun e w' => e = .returned (.bool (!D.power.down)) ∧ DiskAt w' d g m D.power ∧ Trd (dskB d g m) w w' := by
  obtain ⟨cap, ⟨_, _, _, c3, c4⟩, fz⟩ := h.five
  have f3 := fz 3
  have f4 := fz 4
  have ha := h.ok.armed
  clear fz
  replace h := hidden h
  generalize har : D.armed = ar at c3 ha
  generalize hdn : D.down = dn at c4
  replace har := hidden har
  replace hdn := hidden hdn
  by_cases h0 : 0 < ar
  · have hp := hidden (power_pos (D := D) (by rw [har.out]; exact h0))
    have hd2 := hidden ((h.out.setArmed (ar - 1) (by omega) (by omega)).setDown (dn || ar - 1 == 0))
    have ht2 := hidden ((Trd.setCell (S := dskB d g m) w ⟨d, 3, none⟩ (.int .i64 (ar - 1)) (.inl rfl)).trans (Trd.setCell _ ⟨d, 4, none⟩ (.bool (dn || ar - 1 == 0)) (.inl rfl)))
    rw [har.out, hdn.out] at hp
    rw [hp.out]
    clear hp h har hdn
    cases dn
    · by_cases h1 : ar = 1
      · subst h1
        go_enter Tryd.func36, Tryd.ntmps36
        go_wp2
        go_ret
        exact ⟨rfl, hd2.out, ht2.out⟩
      · have h2 : (ar - 1 == 0) = false := by simp; omega
        rw [h2] at hd2 ht2
        rw [h2]
        go_enter Tryd.func36, Tryd.ntmps36
        go_wp2
        go_ret
        exact ⟨rfl, hd2.out, ht2.out⟩
    · go_enter Tryd.func36, Tryd.ntmps36
      go_wp2
      go_ret
      exact ⟨rfl, hd2.out, ht2.out⟩
  · have hp := hidden (power_neg (D := D) (by rw [har.out]; exact h0))
    rw [hp.out, hdn.out]
    go_enter Tryd.func36, Tryd.ntmps36
    go_wp2
    go_ret
    exact ⟨rfl, h.out, Trd.refl _ _⟩

/-! Cut down by 3, by 129: how far the bytes got. -/
theorem tdiv_of (a b : Int) (hb : 0 < b) : a.tdiv b = if a.tmod b < 0 then a / b + 1 else a / b := by
  have h1 := Int.mul_tdiv_add_tmod a b
  have h2 := Int.mul_ediv_add_emod a b
  have h3 := Int.emod_nonneg a (show b ≠ 0 by omega)
  have h4 := Int.emod_lt_of_pos a hb
  have h5 := Int.tmod_eq_emod (a := a) (b := b)
  generalize a.tdiv b = q at *
  generalize a.tmod b = r at *
  generalize a / b = Q at *
  generalize a % b = R at *
  have e : b * q + r = b * Q + R := by rw [h1, h2]
  split at h5
  · subst h5
    rw [if_neg (by omega)]
    have : b * q = b * Q := by omega
    exact Int.eq_of_mul_eq_mul_left (by omega) this
  · have hb2 : (b.natAbs : Int) = b := by omega
    rw [hb2] at h5
    rw [if_pos (by omega)]
    have : b * q = b * (Q + 1) := by rw [Int.mul_add, Int.mul_one]; omega
    exact Int.eq_of_mul_eq_mul_left (by omega) this
theorem tmod_of (a b : Int) (hb : 0 < b) : a % b = if a.tmod b < 0 then a.tmod b + b else a.tmod b := by
  have h3 := Int.emod_nonneg a (show b ≠ 0 by omega)
  have h4 := Int.emod_lt_of_pos a hb
  have h5 := Int.tmod_eq_emod (a := a) (b := b)
  split at h5
  · rw [if_neg (by omega)]; omega
  · rw [if_pos (by omega)]; omega
theorem w64_in (n : Int) (h : -9223372036854775808 ≤ n ∧ n ≤ 9223372036854775807) : wrap64 n = n := by unfold wrap64; omega
theorem divide_any (a b : Int) (w : World) (ha : -9223372036854775808 ≤ a) (ha2 : a ≤ 9223372036854775807) (hb : 2 ≤ b) (hb2 : b ≤ 1000) :
    Calls Tryd.prog 43 #[.int .i64 a, .int .i64 b] w fun e w' => e = .returned (.tuple #[.int .i64 (a / b), .int .i64 (a % b)]) ∧ ∃ k, w' = w.drewN k := by
  have h1 := tdiv_of a b (by omega)
  have h2 := tmod_of a b (by omega)
  have h3 := Int.emod_nonneg a (show b ≠ 0 by omega)
  have h4 := Int.emod_lt_of_pos a (show 0 < b by omega)
  have h6 := Int.mul_ediv_add_emod a b
  have h7 : -4611686018427387904 ≤ a / b ∧ a / b ≤ 4611686018427387904 := by
    generalize a / b = Q at h6
    have : b * Q = 2 * Q + (b - 2) * Q := by rw [Int.sub_mul]; omega
    by_cases hq : 0 ≤ Q
    · have := Int.mul_nonneg (show 0 ≤ b - 2 by omega) hq
      omega
    · have h8 := Int.mul_nonneg (show 0 ≤ b - 2 by omega) (show 0 ≤ -Q - 1 by omega)
      rw [Int.mul_sub, Int.mul_neg, Int.mul_one] at h8
      omega
  have hbn : b ≠ 0 := by omega
  have hbm : b ≠ -1 := by omega
  generalize hq : a / b = Q at *
  generalize hr : a % b = R at *
  generalize hq' : a.tdiv b = q at *
  generalize hr' : a.tmod b = r at *
  by_cases hlt : r < 0
  · rw [if_pos hlt] at h1 h2
    have e1 : wrap64 (q - 1) = Q := by
      subst h1
      rw [show Q + 1 - 1 = Q by omega]
      exact w64_in _ (by omega)
    have e2 : wrap64 (r + b) = R := by rw [← h2]; exact w64_in _ (by omega)
    have e3 : wrap64 q = q := w64_in _ (by omega)
    have e3' := hidden e3
    have e1' := hidden e1
    have e2' := hidden e2
    clear h1 h2 h6 h7 e1 e2 e3 h3 h4 hq hr
    go_enter Tryd.func43, Tryd.ntmps43
    go_wp2_with fail
    go_quiet (fail)
    go_wp2
    go_ret2
    exact ⟨ret_ii (by first | exact e1'.out | (rw [e3'.out]; exact e1'.out)) (by first | exact e2'.out | simp [e2'.out]), _, rfl⟩
  · rw [if_neg hlt] at h1 h2
    have e3 : wrap64 q = q := w64_in _ (by omega)
    have e3' := hidden (e3.trans h1)
    clear e3
    have h1' := hidden h1
    have h2' := hidden h2
    clear h1 h2 h6 h7 h3 h4 hq hr
    go_enter Tryd.func43, Tryd.ntmps43
    go_wp2_with fail
    go_quiet (fail)
    go_wp2
    go_ret2
    exact ⟨ret_ii e3'.out h2'.out.symm, _, rfl⟩
end Go.Proofs.YtcjjjoodnddoeaaDoor
