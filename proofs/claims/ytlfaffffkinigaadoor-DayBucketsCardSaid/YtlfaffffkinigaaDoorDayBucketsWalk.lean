import Derived.Test.YtlfaffffkinigaaDoorDayLaw
import Derived.Test.YtlfaffffkinigaaDoorLaidOn
namespace Go.Proofs.YtlfaffffkinigaaDoor
open Go.RowKit
set_option linter.unusedVariables false

theorem lf_none (t : Int) : lfV 0 t = 0 ∧ lfB 0 t = true := by unfold lfV lfB; simp
theorem lf_past {e t : Int} (h0 : 1 ≤ e) (h : e ≤ t) : lfV e t = 0 ∧ lfB e t = false := by
  unfold lfV lfB
  exact ⟨if_pos (.inr h), decide_eq_false (by omega)⟩
theorem lf_left {e t : Int} (h0 : 1 ≤ e) (h : t < e) (h2 : e - t ≤ 1000000) : lfV e t = e - t ∧ lfB e t = true := by
  unfold lfV lfB
  exact ⟨by rw [if_neg (by omega), if_neg (by omega)], decide_eq_true (.inr h)⟩

set_option maxRecDepth 100000 in
set_option maxHeartbeats 4000000 in
theorem walk_dayBuckets (a b t : Int) (A : Nat → Addr) (w : World) (ha : -9223372036854775808 ≤ a) (ha2 : a ≤ 9223372036854775807) (hb : -9223372036854775808 ≤ b) (hb2 : b ≤ 9223372036854775807) (ht : -9223372036854775808 ≤ t) (ht2 : t ≤ 9223372036854775807) (hS : SentsOn [2] w A) (hT : EndsOn w) :
    Calls Tryd.prog 6 #[.int .i64 a, .int .i64 b, .int .i64 t] w fun e w' => e = .returned (.bool true) ∧ Below w.heap.size w w' := by
  have hF := hidden (law4_first A w hS.on)
  have hT' := hidden (fun w' (h : Below w.heap.size w w') => hT.below h (Nat.le_refl _))
  clear hS hT
  have hx := hidden (fun w => number_any a 5000 w ha ha2 (by decide) (by decide))
  have hy := hidden (fun w => number_any b 5000 w hb hb2 (by decide) (by decide))
  have hz := hidden (fun w => number_any t 9000 w ht ht2 (by decide) (by decide))
  have x0 : 0 ≤ a % 5000 := by omega
  have x1 : a % 5000 ≤ 4999 := by omega
  have y0 : 0 ≤ b % 5000 := by omega
  have y1 : b % 5000 ≤ 4999 := by omega
  have z0 : 0 ≤ t % 9000 := by omega
  have z1 : t % 9000 ≤ 8999 := by omega
  clear ha ha2 hb hb2 ht ht2
  generalize a % 5000 = x at *
  generalize b % 5000 = y at *
  generalize t % 9000 = z at *
  have b1 : bkD x ≤ bkD (x + y) := bkD_mono (by omega)
  obtain ⟨b2, b3⟩ := bkD_bd x
  obtain ⟨b4, b5⟩ := bkD_bd (x + y)
  obtain ⟨l1, l2⟩ := lf_none z
  by_cases hlt : z < x + y + 1
  · obtain ⟨l3, l4⟩ := lf_left (show 1 ≤ x + y + 1 by omega) hlt (by omega)
    go_enter Tryd.func6, Tryd.ntmps6
    go_wp2_with fail
    refine hF.out.mono ?_
    rintro e w1 ⟨rfl, hw⟩
    have hE := hidden (hT'.out w1 hw)
    replace hw := hidden hw
    go_wp2_with (first
      | (go_at_call 23; with_reducible refine (hx.out _).mono ?_; rintro e w' ⟨rfl, rfl⟩)
      | (go_at_call 23; with_reducible refine (hy.out _).mono ?_; rintro e w' ⟨rfl, rfl⟩)
      | (go_at_call 23; with_reducible refine (hz.out _).mono ?_; rintro e w' ⟨rfl, rfl⟩)
      | (go_at_call 14; refine (left_any _ _ _ (by omega) (by omega) (by omega) (by omega)).mono ?_; rintro e w' ⟨rfl, rfl⟩)
      | (go_at_call 21; refine (bucket_any _ _ hE.out).mono ?_; rintro e w' ⟨rfl, rfl⟩))
    go_ret
    exact ⟨rfl, hw.out⟩
  · obtain ⟨l3, l4⟩ := lf_past (show 1 ≤ x + y + 1 by omega) (show x + y + 1 ≤ z by omega)
    have hd : decide (z < x + y + 1) = false := decide_eq_false hlt
    go_enter Tryd.func6, Tryd.ntmps6
    go_wp2_with fail
    refine hF.out.mono ?_
    rintro e w1 ⟨rfl, hw⟩
    have hE := hidden (hT'.out w1 hw)
    replace hw := hidden hw
    go_wp2_with (first
      | (go_at_call 23; with_reducible refine (hx.out _).mono ?_; rintro e w' ⟨rfl, rfl⟩)
      | (go_at_call 23; with_reducible refine (hy.out _).mono ?_; rintro e w' ⟨rfl, rfl⟩)
      | (go_at_call 23; with_reducible refine (hz.out _).mono ?_; rintro e w' ⟨rfl, rfl⟩)
      | (go_at_call 14; refine (left_any _ _ _ (by omega) (by omega) (by omega) (by omega)).mono ?_; rintro e w' ⟨rfl, rfl⟩)
      | (go_at_call 21; refine (bucket_any _ _ hE.out).mono ?_; rintro e w' ⟨rfl, rfl⟩))
    go_ret
    exact ⟨rfl, hw.out⟩
end Go.Proofs.YtlfaffffkinigaaDoor
