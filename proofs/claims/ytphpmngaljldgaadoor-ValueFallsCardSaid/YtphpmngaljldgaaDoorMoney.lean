/-
  What the calls of package money answer.
-/
import Derived.Test.YtphpmngaljldgaaDoorMoneyMath
import Derived.Deep.QuietTactic
import Derived.BigQuiet
namespace Go.Proofs.YtphpmngaljldgaaDoor
open Go.RowKit
set_option linter.unusedVariables false

theorem outside_any (n m : Int) (w : World) :
    Calls Tryd.prog 27 #[.int .i64 n, .int .i64 m] w fun e w' => e = .returned (.bool (!win n m)) ∧ w = w' := by
  by_cases h0 : n < 0
  · have h : win n m = false := decide_eq_false (by omega)
    go_enter Tryd.func27, Tryd.ntmps27
    go_wp2
    go_ret
    exact ⟨ret_bool (by first | rfl | (rw [h]; rfl)), rfl⟩
  · by_cases h1 : m < n
    · have h : win n m = false := decide_eq_false (by omega)
      go_enter Tryd.func27, Tryd.ntmps27
      go_wp2
      go_ret
      exact ⟨ret_bool (by first | rfl | (rw [h]; rfl)), rfl⟩
    · have h : win n m = true := decide_eq_true (by omega)
      go_enter Tryd.func27, Tryd.ntmps27
      go_wp2
      go_ret
      exact ⟨ret_bool (by first | rfl | (rw [h]; rfl)), rfl⟩

theorem amount_any (A : Nat → Addr) (n : Int) (ok : Bool) (w : World) (hE : ErrsOn [3] w A) :
    Calls Tryd.prog 28 #[.int .i64 n, .bool ok] w fun e w' => e = .returned (.tuple #[.int .i64 (amtV n ok), errOf A (amtC n ok)]) ∧ ∃ m, w' = w.drewN m := by
  have hO : w.cell? ⟨1, 0, none⟩ = some (errAt (A 3)) := hE 3 (by decide)
  clear hE
  cases ok
  · go_enter Tryd.func28, Tryd.ntmps28
    go_wp2_with fail
    go_quiet (fail)
    go_wp2
    go_ret2
    exact ⟨rfl, _, rfl⟩
  · by_cases h : n ≤ 1000000000000000
    · have e1 : n = amtV n true := (if_pos ⟨rfl, h⟩).symm
      have e2 : Value.nilIface = errOf A (amtC n true) := by unfold amtC; rw [if_pos ⟨rfl, h⟩]; rfl
      replace e1 := hidden e1
      replace e2 := hidden e2
      go_enter Tryd.func28, Tryd.ntmps28
      go_wp2
      go_ret2
      exact ⟨ret_iv e1.out e2.out, 0, rfl⟩
    · have e1 : 0 = amtV n true := (if_neg (fun h2 => h h2.2)).symm
      have e2 : errAt (A 3) = errOf A (amtC n true) := by unfold amtC; rw [if_neg (fun h2 => h h2.2)]; rfl
      replace e1 := hidden e1
      replace e2 := hidden e2
      go_enter Tryd.func28, Tryd.ntmps28
      go_wp2_with fail
      go_quiet (fail)
      go_wp2
      go_ret2
      exact ⟨ret_iv e1.out e2.out, _, rfl⟩

theorem worth_any (A : Nat → Addr) (q p : Int) (w : World) (hE : ErrsOn [2, 3] w A) (hq : -9223372036854775808 ≤ q) (hq2 : q ≤ 9223372036854775807) (hp : -9223372036854775808 ≤ p) (hp2 : p ≤ 9223372036854775807) :
    Calls Tryd.prog 15 #[.int .i64 q, .int .i64 p] w fun e w' => e = .returned (.tuple #[.int .i64 (capV (win q 1000000000000 && win p 1000000000) q p 10000 false), errOf A (capC (win q 1000000000000 && win p 1000000000) q p 10000 false)]) ∧ ∃ n, w' = w.drewN n := by
  have hR : w.cell? ⟨0, 0, none⟩ = some (errAt (A 2)) := hE 2 (by decide)
  have hO := hidden (fun k => (hE.drewN k).sub (ks := [3]) (by decide))
  clear hE
  cases tq : win q 1000000000000
  · go_enter Tryd.func15, Tryd.ntmps15
    go_wp2_with (first
      | (go_at_call 27; refine (outside_any _ _ _).mono ?_; rintro e w' ⟨rfl, rfl⟩))
    go_quiet (fail)
    go_wp2
    go_ret2
    exact ⟨rfl, _, rfl⟩
  · cases tp : win p 1000000000
    · go_enter Tryd.func15, Tryd.ntmps15
      go_wp2_with (first
        | (go_at_call 27; refine (outside_any _ _ _).mono ?_; rintro e w' ⟨rfl, rfl⟩))
      go_quiet (fail)
      go_wp2
      go_ret2
      exact ⟨rfl, _, rfl⟩
    · obtain ⟨q0, q1⟩ := win_yes tq
      obtain ⟨p0, p1⟩ := win_yes tp
      go_enter Tryd.func15, Tryd.ntmps15
      go_wp2_with (first
        | (go_at_call 27; refine (outside_any _ _ _).mono ?_; rintro e w' ⟨rfl, rfl⟩)
        | (go_at_call 29; refine (div_any _ _ _ _ _ (by omega) (by omega) (by omega) (by omega) (by omega)).mono ?_; rintro e w' ⟨rfl, k, rfl⟩)
        | (go_at_call 28; refine (amount_any A _ _ _ (hO.out _)).mono ?_; rintro e w' ⟨rfl, k2, rfl⟩))
      go_ret2
      exact ⟨rfl, _, rfl⟩

theorem base_any (A : Nat → Addr) (v r : Int) (w : World) (hE : ErrsOn [2, 3] w A) (hv : -9223372036854775808 ≤ v) (hv2 : v ≤ 9223372036854775807) (hr : -9223372036854775808 ≤ r) (hr2 : r ≤ 9223372036854775807) :
    Calls Tryd.prog 17 #[.int .i64 v, .int .i64 r] w fun e w' => e = .returned (.tuple #[.int .i64 (capV (win v 1000000000000000 && win r 1000000000) v r 1000000 false), errOf A (capC (win v 1000000000000000 && win r 1000000000) v r 1000000 false)]) ∧ ∃ n, w' = w.drewN n := by
  have hR : w.cell? ⟨0, 0, none⟩ = some (errAt (A 2)) := hE 2 (by decide)
  have hO := hidden (fun k => (hE.drewN k).sub (ks := [3]) (by decide))
  clear hE
  cases tv : win v 1000000000000000
  · go_enter Tryd.func17, Tryd.ntmps17
    go_wp2_with (first
      | (go_at_call 27; refine (outside_any _ _ _).mono ?_; rintro e w' ⟨rfl, rfl⟩))
    go_quiet (fail)
    go_wp2
    go_ret2
    exact ⟨rfl, _, rfl⟩
  · cases tr : win r 1000000000
    · go_enter Tryd.func17, Tryd.ntmps17
      go_wp2_with (first
        | (go_at_call 27; refine (outside_any _ _ _).mono ?_; rintro e w' ⟨rfl, rfl⟩))
      go_quiet (fail)
      go_wp2
      go_ret2
      exact ⟨rfl, _, rfl⟩
    · obtain ⟨v0, v1⟩ := win_yes tv
      obtain ⟨r0, r1⟩ := win_yes tr
      go_enter Tryd.func17, Tryd.ntmps17
      go_wp2_with (first
        | (go_at_call 27; refine (outside_any _ _ _).mono ?_; rintro e w' ⟨rfl, rfl⟩)
        | (go_at_call 29; refine (div_any _ _ _ _ _ (by omega) (by omega) (by omega) (by omega) (by omega)).mono ?_; rintro e w' ⟨rfl, k, rfl⟩)
        | (go_at_call 28; refine (amount_any A _ _ _ (hO.out _)).mono ?_; rintro e w' ⟨rfl, k2, rfl⟩))
      go_ret2
      exact ⟨rfl, _, rfl⟩

theorem less_any (A : Nat → Addr) (v r : Int) (w : World) (hE : ErrsOn [2, 3] w A) (hv : -9223372036854775808 ≤ v) (hv2 : v ≤ 9223372036854775807) (hr : -9223372036854775808 ≤ r) (hr2 : r ≤ 9223372036854775807) :
    Calls Tryd.prog 18 #[.int .i64 v, .int .i64 r] w fun e w' => e = .returned (.tuple #[.int .i64 (capV (win v 1000000000000000 && win r 10000) v (10000 - r) 10000 false), errOf A (capC (win v 1000000000000000 && win r 10000) v (10000 - r) 10000 false)]) ∧ ∃ n, w' = w.drewN n := by
  have hR : w.cell? ⟨0, 0, none⟩ = some (errAt (A 2)) := hE 2 (by decide)
  have hO := hidden (fun k => (hE.drewN k).sub (ks := [3]) (by decide))
  clear hE
  cases tv : win v 1000000000000000
  · go_enter Tryd.func18, Tryd.ntmps18
    go_wp2_with (first
      | (go_at_call 27; refine (outside_any _ _ _).mono ?_; rintro e w' ⟨rfl, rfl⟩))
    go_quiet (fail)
    go_wp2
    go_ret2
    exact ⟨rfl, _, rfl⟩
  · cases tr : win r 10000
    · go_enter Tryd.func18, Tryd.ntmps18
      go_wp2_with (first
        | (go_at_call 27; refine (outside_any _ _ _).mono ?_; rintro e w' ⟨rfl, rfl⟩))
      go_quiet (fail)
      go_wp2
      go_ret2
      exact ⟨rfl, _, rfl⟩
    · obtain ⟨v0, v1⟩ := win_yes tv
      obtain ⟨r0, r1⟩ := win_yes tr
      go_enter Tryd.func18, Tryd.ntmps18
      go_wp2_with (first
        | (go_at_call 27; refine (outside_any _ _ _).mono ?_; rintro e w' ⟨rfl, rfl⟩)
        | (go_at_call 29; refine (div_any _ _ _ _ _ (by omega) (by omega) (by omega) (by omega) (by omega)).mono ?_; rintro e w' ⟨rfl, k, rfl⟩)
        | (go_at_call 28; refine (amount_any A _ _ _ (hO.out _)).mono ?_; rintro e w' ⟨rfl, k2, rfl⟩))
      go_ret2
      exact ⟨rfl, _, rfl⟩

def TotRel (xs : List Int) (i : Value) : Prop := ∃ k : Nat, i = .int .i64 (k : Int) ∧ k ≤ xs.length ∧ inAll (xs.take k) = true
end Go.Proofs.YtphpmngaljldgaaDoor
