import Derived.Test.YtlfaffffkinigaaDoorDayLaw
import Derived.Test.YtlfaffffkinigaaDoorLaidOn
namespace Go.Proofs.YtlfaffffkinigaaDoor
open Go.RowKit
set_option linter.unusedVariables false

/-- was this day of the week seen, in so many days from x on? -/
def seenB (x : Int) (k j : Nat) : Bool := decide (((j : Int) - x - 6) % 7 < k)
theorem seen_none (x : Int) (j : Nat) : seenB x 0 j = false := decide_eq_false (by omega)
theorem seen_not (x : Int) (k j : Nat) (hk : k < 7) (h : wkD (x + k) = j) : seenB x k j = false := decide_eq_false (by unfold wkD at h; omega)
theorem seen_now (x : Int) (k j : Nat) (hk : k < 7) (h : wkD (x + k) = j) : seenB x (k + 1) j = true := decide_eq_true (by unfold wkD at h; omega)
theorem seen_then (x : Int) (k i j : Nat) (hk : k < 7) (hi : i < 7) (h : wkD (x + k) = j) (hne : i ≠ j) : seenB x (k + 1) i = seenB x k i := by
  unfold seenB
  rw [Bool.eq_iff_iff, decide_eq_true_iff, decide_eq_true_iff]
  unfold wkD at h
  omega
theorem wk_nat (n : Int) : ∃ j : Nat, wkD n = j ∧ j < 7 := ⟨(wkD n).toNat, by unfold wkD; omega, by unfold wkD; omega⟩
theorem wk_more (n : Int) : wkD (n + 7) = wkD n := by unfold wkD; omega
theorem wk_less (n : Int) : wkD (n - 7) = wkD n := by unfold wkD; omega
def WkW (x : Int) (B : Nat) (w0 : World) (k : Nat) (w : World) : Prop := Below w0.heap.size w0 w ∧ ∀ j : Nat, j < 7 → w.cell? ⟨B, j, none⟩ = some (.bool (seenB x k j)) ∧ w.frozen? ⟨B, j, none⟩ = false
def WkRel (x : Int) (B : Nat) (w0 : World) (i : Value) (w : World) : Prop := ∃ k : Nat, k ≤ 7 ∧ i = .int .i64 (k : Int) ∧ WkW x B w0 k w

theorem wkW_step {x : Int} {B k j : Nat} {w0 w : World} (hB : w0.heap.size ≤ B) (hk : k < 7) (hj : j < 7) (h : wkD (x + k) = j) (hw : WkW x B w0 k w) : WkW x B w0 (k + 1) (w.setCell ⟨B, j, none⟩ (.bool true)) := by
  obtain ⟨hb, hc⟩ := hw
  refine ⟨hb.setCell hB _, fun i hi => ?_⟩
  obtain ⟨h1, h2⟩ := hc i hi
  rw [World.frozen?_setCell]
  refine ⟨?_, h2⟩
  by_cases e : i = j
  · subst e
    rw [seen_now x k i hk h]
    exact World.cell?_setCell_same _ _ _ h1
  · rw [seen_then x k i j hk hi h e, ← h1]
    exact World.cell?_setCell_other _ _ _ _ (fun e2 => e (by injection e2 with _ e3 _; exact e3.symm))

theorem wkW_first (x : Int) (w0 w1 : World) (t : TypeId) (h : Below w0.heap.size w0 w1) : WkW x w1.heap.size w0 0 (w1.alloc (.cells #[.bool false, .bool false, .bool false, .bool false, .bool false, .bool false, .bool false] t)) := by
  refine ⟨h.trans (((Below.refl _ _).alloc (Nat.le_refl _) _).mono h.size), fun j hj => ?_⟩
  have e2 := heap_alloc_new w1 (.cells #[.bool false, .bool false, .bool false, .bool false, .bool false, .bool false, .bool false] t)
  rw [seen_none]
  have hc : j = 0 ∨ j = 1 ∨ j = 2 ∨ j = 3 ∨ j = 4 ∨ j = 5 ∨ j = 6 := by omega
  rcases hc with rfl | rfl | rfl | rfl | rfl | rfl | rfl <;> exact ⟨by rw [cell_of_row _ _ _ _ _ _ e2]; rfl, by simp only [World.frozen?, e2]; rfl⟩

set_option maxRecDepth 100000 in
set_option maxHeartbeats 4000000 in
theorem walk_dayWeeks (a : Int) (A : Nat → Addr) (w : World) (ha : -9223372036854775808 ≤ a) (ha2 : a ≤ 9223372036854775807) (hS : SentsOn [2] w A) :
    Calls Tryd.prog 7 #[.int .i64 a] w fun e w' => e = .returned (.bool true) ∧ Below w.heap.size w w' := by
  have hF := hidden (law4_first A w hS.on)
  clear hS
  have hx := hidden (fun w => number_any a 1000000 w ha ha2 (by decide) (by decide))
  have x0 : 0 ≤ a % 1000000 := by omega
  have x1 : a % 1000000 ≤ 999999 := by omega
  clear ha ha2
  generalize a % 1000000 = y at *
  go_enter Tryd.func7, Tryd.ntmps7
  go_wp2_with fail
  refine hF.out.mono ?_
  rintro e w1 ⟨rfl, hw⟩
  replace hw := hidden hw
  go_wp2_with (go_at_call 23; with_reducible refine (hx.out _).mono ?_; rintro e w' ⟨rfl, rfl⟩)
  have hst := hidden (wkW_first (y - 500000) w w1 44 hw.out)
  have hsz := hidden hw.out.size
  generalize w1.heap.size = B at hst hsz ⊢
  go_loopw [5] (fun i wr => WkRel (y - 500000) B w i wr) (fun i _ => 7 - (intOf i).toNat)
  case atStart => exact ⟨0, by omega, rfl, hst.out⟩
  case round =>
    obtain ⟨k, hk, rfl, hW⟩ := hrel
    by_cases hlt : k < 7
    · obtain ⟨j, hj, hj7⟩ := wk_nat (y - 500000 + k)
      have hc := (hW.2 j hj7).1
      have hf := (hW.2 j hj7).2
      rw [seen_not _ k j hlt hj] at hc
      have n0 := hidden (fun w => (show Calls Tryd.prog 19 #[.int .i64 (y - 500000 + k)] w fun e w' => e = .returned (.int .i64 (j : Int)) ∧ w = w' by rw [← hj]; exact week_any _ w (by omega) (by omega)))
      have n1 := hidden (fun w => (show Calls Tryd.prog 19 #[.int .i64 (y - 500000 + k + 7)] w fun e w' => e = .returned (.int .i64 (j : Int)) ∧ w = w' by rw [← hj, ← wk_more]; exact week_any _ w (by omega) (by omega)))
      have n2 := hidden (fun w => (show Calls Tryd.prog 19 #[.int .i64 (y - 500000 + k - 7)] w fun e w' => e = .returned (.int .i64 (j : Int)) ∧ w = w' by rw [← hj, ← wk_less]; exact week_any _ w (by omega) (by omega)))
      have hstep := hidden (wkW_step hsz.out hlt hj7 hj hW)
      have jlt : (j : Int) < 7 := by omega
      clear hj hW
      go_wp2_with (first
        | (go_at_call 19; with_reducible refine (n0.out _).mono ?_; rintro e w' ⟨rfl, rfl⟩)
        | (go_at_call 19; with_reducible refine (n1.out _).mono ?_; rintro e w' ⟨rfl, rfl⟩)
        | (go_at_call 19; with_reducible refine (n2.out _).mono ?_; rintro e w' ⟨rfl, rfl⟩))
      go_roundw
      case rel => exact ⟨k + 1, by omega, by go_num, hstep.out⟩
      case measure => simp [intOf]; omega
    · have hend := hidden hW.1
      clear hW
      obtain rfl : k = 7 := by omega
      have hw0 : wkD 0 = 6 := by decide
      go_wp2_with (go_at_call 19; refine (week_any _ _ (by omega) (by omega)).mono ?_; rintro e w' ⟨rfl, rfl⟩)
      go_ret
      exact ⟨rfl, hend.out⟩
end Go.Proofs.YtlfaffffkinigaaDoor
