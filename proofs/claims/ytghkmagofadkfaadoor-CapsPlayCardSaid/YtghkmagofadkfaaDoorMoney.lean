/-
  What the calls of package money answer.
-/
import Derived.Test.YtghkmagofadkfaaDoorMoneyMath
import Derived.Deep.QuietTactic
import Derived.BigQuiet
namespace Go.Proofs.YtghkmagofadkfaaDoor
open Go.RowKit
set_option linter.unusedVariables false

theorem outside_any (n m : Int) (w : World) :
    Calls Tryd.prog 42 #[.int .i64 n, .int .i64 m] w fun e w' => e = .returned (.bool (!win n m)) ∧ w = w' := by
  by_cases h0 : n < 0
  · have h : win n m = false := decide_eq_false (by omega)
    go_enter Tryd.func42, Tryd.ntmps42
    go_wp2
    go_ret
    exact ⟨ret_bool (by first | rfl | (rw [h]; rfl)), rfl⟩
  · by_cases h1 : m < n
    · have h : win n m = false := decide_eq_false (by omega)
      go_enter Tryd.func42, Tryd.ntmps42
      go_wp2
      go_ret
      exact ⟨ret_bool (by first | rfl | (rw [h]; rfl)), rfl⟩
    · have h : win n m = true := decide_eq_true (by omega)
      go_enter Tryd.func42, Tryd.ntmps42
      go_wp2
      go_ret
      exact ⟨ret_bool (by first | rfl | (rw [h]; rfl)), rfl⟩

theorem amount_any (A : Nat → Addr) (n : Int) (ok : Bool) (w : World) (hE : ErrsOn [3] w A) :
    Calls Tryd.prog 43 #[.int .i64 n, .bool ok] w fun e w' => e = .returned (.tuple #[.int .i64 (amtV n ok), errOf A (amtC n ok)]) ∧ ∃ m, w' = w.drewN m := by
  have hO : w.cell? ⟨3, 0, none⟩ = some (errAt (A 3)) := hE 3 (by decide)
  clear hE
  cases ok
  · go_enter Tryd.func43, Tryd.ntmps43
    go_wp2_with fail
    go_quiet (fail)
    go_wp2
    go_ret2
    exact ⟨rfl, _, rfl⟩
  · by_cases h : n ≤ 1000000000000000
    · have e1 : n = amtV n true := (if_pos ⟨rfl, h⟩).symm
      have e2 : Value.nilIface = errOf A (amtC n true) := by unfold amtC; rw [if_pos ⟨rfl, h⟩]; rfl
      replace e1 := hidden e1
      replace e2 := hidden e2
      go_enter Tryd.func43, Tryd.ntmps43
      go_wp2
      go_ret2
      exact ⟨ret_iv e1.out e2.out, 0, rfl⟩
    · have e1 : 0 = amtV n true := (if_neg (fun h2 => h h2.2)).symm
      have e2 : errAt (A 3) = errOf A (amtC n true) := by unfold amtC; rw [if_neg (fun h2 => h h2.2)]; rfl
      replace e1 := hidden e1
      replace e2 := hidden e2
      go_enter Tryd.func43, Tryd.ntmps43
      go_wp2_with fail
      go_quiet (fail)
      go_wp2
      go_ret2
      exact ⟨ret_iv e1.out e2.out, _, rfl⟩

def TotRel (xs : List Int) (i : Value) : Prop := ∃ k : Nat, i = .int .i64 (k : Int) ∧ k ≤ xs.length ∧ inAll (xs.take k) = true
set_option maxHeartbeats 1000000 in
theorem total_any (A : Nat → Addr) (v : Value) (xs : List Int) (w : World) (hE : ErrsOn [2, 3] w A) (h : Reads .i64 w v xs) (hx : xs.length ≤ 1000000000) (hb : ∀ x ∈ xs, -9223372036854775808 ≤ x ∧ x ≤ 9223372036854775807) :
    Calls Tryd.prog 39 #[v] w fun e w' => e = .returned (.tuple #[.int .i64 (totV xs), errOf A (totC xs)]) ∧ ∃ m, w' = w.drewN m := by
  have hR : w.cell? ⟨0, 0, none⟩ = some (errAt (A 2)) := hE 2 (by decide)
  have hO := hidden (hE.sub (ks := [3]) (by decide))
  have hr := hidden h
  obtain ⟨a, n, c, rfl, en, hnc, hcm, hn, _⟩ := h
  subst en
  have hbb := hidden hb
  clear hn hb hE
  go_enter Tryd.func39, Tryd.ntmps39
  go_wp2_with fail
  go_loop [8] (fun i => TotRel xs i) (fun i => xs.length - (intOf i).toNat)
  case atStart => exact ⟨0, rfl, Nat.zero_le _, rfl⟩
  case round =>
    obtain ⟨k, rfl, hk, hT⟩ := hrel
    replace hT := hidden hT
    by_cases hlt : k < xs.length
    · obtain ⟨bl, ol, rfl, hc⟩ := hr.out.cell k hlt
      have htk := hidden (show inAll (xs.take (k + 1)) = win (xs.getD k 0) 1000000000000000 by rw [take_snoc0 xs k hlt, inAll_snoc, hT.out, Bool.true_and])
      have hbd := hidden (fun h => inAll_at (l := xs) k hlt h)
      generalize xs.getD k 0 = x at hc htk hbd
      cases tx : win x 1000000000000000
      · have hfin := hbd.out tx
        have e1 : 0 = totV xs := by unfold totV; rw [hfin]; rfl
        have e2 : errAt (A 2) = errOf A (totC xs) := by unfold totC; rw [hfin]; rfl
        replace e1 := hidden e1
        replace e2 := hidden e2
        clear hfin
        go_wp2_with (go_at_call 42; refine (outside_any _ _ _).mono ?_; rintro e w' ⟨rfl, rfl⟩)
        go_quiet (fail)
        go_wp2
        go_ret2
        exact ⟨ret_iv e1.out e2.out, _, rfl⟩
      · go_wp2_with (go_at_call 42; refine (outside_any _ _ _).mono ?_; rintro e w' ⟨rfl, rfl⟩)
        go_round
        case rel => exact ⟨k + 1, by go_num, hlt, htk.out.trans tx⟩
        case measure => simp [intOf]; omega
    · have e : xs.take k = xs := List.take_of_length_le (by omega)
      rw [e] at hT
      have e1 : amtV (cap64 (total xs)) (in64 (total xs)) = totV xs := by unfold totV; rw [hT.out]; rfl
      have e2 : errOf A (amtC (cap64 (total xs)) (in64 (total xs))) = errOf A (totC xs) := by unfold totC; rw [hT.out]; rfl
      replace e1 := hidden e1
      replace e2 := hidden e2
      go_wp2_with (first
        | (go_at_call 44; refine (sum_any _ xs _ hr.out hx hbb.out).mono ?_; rintro e w' ⟨rfl, rfl⟩)
        | (go_at_call 43; refine (amount_any A _ _ _ hO.out).mono ?_; rintro e w' ⟨rfl, k2, rfl⟩))
      go_ret2
      exact ⟨ret_iv e1.out e2.out, _, rfl⟩
end Go.Proofs.YtghkmagofadkfaaDoor
