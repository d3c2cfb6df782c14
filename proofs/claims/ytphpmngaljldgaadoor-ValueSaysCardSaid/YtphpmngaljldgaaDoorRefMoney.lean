/-
  What the document's own values (pledgeref1) answer.
-/
import Derived.Test.YtphpmngaljldgaaDoorMoneyMath
import Derived.Test.YtphpmngaljldgaaDoorRefFix
namespace Go.Proofs.YtphpmngaljldgaaDoor
open Go.RowKit
set_option linter.unusedVariables false

theorem within_any (n m : Int) (w : World) :
    Calls Tryd.prog 31 #[.int .i64 n, .int .i64 m] w fun e w' => e = .returned (.bool (win n m)) ∧ w = w' := by
  by_cases h0 : 0 ≤ n
  · by_cases h1 : n ≤ m
    · have h : win n m = true := decide_eq_true (by omega)
      go_enter Tryd.func31, Tryd.ntmps31
      go_wp2
      go_ret
      exact ⟨ret_bool (by first | rfl | rw [h]), rfl⟩
    · have h : win n m = false := decide_eq_false (by omega)
      go_enter Tryd.func31, Tryd.ntmps31
      go_wp2
      go_ret
      exact ⟨ret_bool (by first | rfl | rw [h]), rfl⟩
  · have h : win n m = false := decide_eq_false (by omega)
    go_enter Tryd.func31, Tryd.ntmps31
    go_wp2
    go_ret
    exact ⟨ret_bool (by first | rfl | rw [h]), rfl⟩

theorem capped_any (a b c : Int) (up : Bool) (w : World) (ha : -9223372036854775808 ≤ a) (ha2 : a ≤ 9223372036854775807) (hb : -9223372036854775808 ≤ b) (hb2 : b ≤ 9223372036854775807) (hc2 : c ≤ 9223372036854775807) :
    Calls Tryd.prog 32 #[.int .i64 a, .int .i64 b, .int .i64 c, .bool up] w fun e w' => e = .returned (.tuple #[.int .i64 (capV true a b c up), .int .i64 (capC true a b c up)]) ∧ w = w' := by
  have e1 : capV true a b c up = amtV (divAns a b c up) (divOk a b c up) := rfl
  have e2 : capC true a b c up = amtC (divAns a b c up) (divOk a b c up) := rfl
  rw [e1, e2]
  clear e1 e2
  have hd := hidden (refDiv_any a b c up w ha ha2 hb hb2 hc2)
  generalize divAns a b c up = n at *
  generalize divOk a b c up = ok at *
  cases ok
  · go_enter Tryd.func32, Tryd.ntmps32
    go_wp2_with (go_at_call 41; refine hd.out.mono ?_; rintro e w' ⟨rfl, rfl⟩)
    go_ret2
    exact ⟨rfl, rfl⟩
  · by_cases h : n ≤ 1000000000000000
    · have e1 : amtV n true = n := if_pos ⟨rfl, h⟩
      have e2 : amtC n true = 0 := if_pos ⟨rfl, h⟩
      go_enter Tryd.func32, Tryd.ntmps32
      go_wp2_with (go_at_call 41; refine hd.out.mono ?_; rintro e w' ⟨rfl, rfl⟩)
      go_ret2
      exact ⟨ret_ii e1.symm e2.symm, rfl⟩
    · have e1 : amtV n true = 0 := if_neg (fun h2 => h h2.2)
      have e2 : amtC n true = 104 := if_neg (fun h2 => h h2.2)
      go_enter Tryd.func32, Tryd.ntmps32
      go_wp2_with (go_at_call 41; refine hd.out.mono ?_; rintro e w' ⟨rfl, rfl⟩)
      go_ret2
      exact ⟨ret_ii e1.symm e2.symm, rfl⟩

theorem refWorth_any (q p : Int) (w : World) (hq : -9223372036854775808 ≤ q) (hq2 : q ≤ 9223372036854775807) (hp : -9223372036854775808 ≤ p) (hp2 : p ≤ 9223372036854775807) :
    Calls Tryd.prog 19 #[.int .i64 q, .int .i64 p] w fun e w' => e = .returned (.tuple #[.int .i64 (capV (win q 1000000000000 && win p 1000000000) q p 10000 false), .int .i64 (capC (win q 1000000000000 && win p 1000000000) q p 10000 false)]) ∧ w = w' := by
  cases tq : win q 1000000000000
  · go_enter Tryd.func19, Tryd.ntmps19
    go_wp2_with (first
      | (go_at_call 31; refine (within_any _ _ _).mono ?_; rintro e w' ⟨rfl, rfl⟩))
    go_ret2
    exact ⟨rfl, rfl⟩
  · cases tp : win p 1000000000
    · go_enter Tryd.func19, Tryd.ntmps19
      go_wp2_with (first
        | (go_at_call 31; refine (within_any _ _ _).mono ?_; rintro e w' ⟨rfl, rfl⟩))
      go_ret2
      exact ⟨rfl, rfl⟩
    · obtain ⟨q0, q1⟩ := win_yes tq
      obtain ⟨p0, p1⟩ := win_yes tp
      go_enter Tryd.func19, Tryd.ntmps19
      go_wp2_with (first
        | (go_at_call 31; refine (within_any _ _ _).mono ?_; rintro e w' ⟨rfl, rfl⟩)
        | (go_at_call 32; refine (capped_any _ _ _ _ _ (by omega) (by omega) (by omega) (by omega) (by omega)).mono ?_; rintro e w' ⟨rfl, rfl⟩))
      go_ret2
      exact ⟨rfl, rfl⟩

theorem refBase_any (v r : Int) (w : World) (hv : -9223372036854775808 ≤ v) (hv2 : v ≤ 9223372036854775807) (hr : -9223372036854775808 ≤ r) (hr2 : r ≤ 9223372036854775807) :
    Calls Tryd.prog 20 #[.int .i64 v, .int .i64 r] w fun e w' => e = .returned (.tuple #[.int .i64 (capV (win v 1000000000000000 && win r 1000000000) v r 1000000 false), .int .i64 (capC (win v 1000000000000000 && win r 1000000000) v r 1000000 false)]) ∧ w = w' := by
  cases tv : win v 1000000000000000
  · go_enter Tryd.func20, Tryd.ntmps20
    go_wp2_with (first
      | (go_at_call 31; refine (within_any _ _ _).mono ?_; rintro e w' ⟨rfl, rfl⟩))
    go_ret2
    exact ⟨rfl, rfl⟩
  · cases tr : win r 1000000000
    · go_enter Tryd.func20, Tryd.ntmps20
      go_wp2_with (first
        | (go_at_call 31; refine (within_any _ _ _).mono ?_; rintro e w' ⟨rfl, rfl⟩))
      go_ret2
      exact ⟨rfl, rfl⟩
    · obtain ⟨v0, v1⟩ := win_yes tv
      obtain ⟨r0, r1⟩ := win_yes tr
      go_enter Tryd.func20, Tryd.ntmps20
      go_wp2_with (first
        | (go_at_call 31; refine (within_any _ _ _).mono ?_; rintro e w' ⟨rfl, rfl⟩)
        | (go_at_call 32; refine (capped_any _ _ _ _ _ (by omega) (by omega) (by omega) (by omega) (by omega)).mono ?_; rintro e w' ⟨rfl, rfl⟩))
      go_ret2
      exact ⟨rfl, rfl⟩

theorem refPart_any (v r : Int) (up : Bool) (w : World) (hv : -9223372036854775808 ≤ v) (hv2 : v ≤ 9223372036854775807) (hr : -9223372036854775808 ≤ r) (hr2 : r ≤ 9223372036854775807) :
    Calls Tryd.prog 33 #[.int .i64 v, .int .i64 r, .bool up] w fun e w' => e = .returned (.tuple #[.int .i64 (capV (win v 1000000000000000 && win r 10000) v r 10000 up), .int .i64 (capC (win v 1000000000000000 && win r 10000) v r 10000 up)]) ∧ w = w' := by
  cases tv : win v 1000000000000000
  · go_enter Tryd.func33, Tryd.ntmps33
    go_wp2_with (first
      | (go_at_call 31; refine (within_any _ _ _).mono ?_; rintro e w' ⟨rfl, rfl⟩))
    go_ret2
    exact ⟨rfl, rfl⟩
  · cases tr : win r 10000
    · go_enter Tryd.func33, Tryd.ntmps33
      go_wp2_with (first
        | (go_at_call 31; refine (within_any _ _ _).mono ?_; rintro e w' ⟨rfl, rfl⟩))
      go_ret2
      exact ⟨rfl, rfl⟩
    · obtain ⟨v0, v1⟩ := win_yes tv
      obtain ⟨r0, r1⟩ := win_yes tr
      go_enter Tryd.func33, Tryd.ntmps33
      go_wp2_with (first
        | (go_at_call 31; refine (within_any _ _ _).mono ?_; rintro e w' ⟨rfl, rfl⟩)
        | (go_at_call 32; refine (capped_any _ _ _ _ _ (by omega) (by omega) (by omega) (by omega) (by omega)).mono ?_; rintro e w' ⟨rfl, rfl⟩))
      go_ret2
      exact ⟨rfl, rfl⟩

theorem refLess_any (v r : Int) (w : World) (hv : -9223372036854775808 ≤ v) (hv2 : v ≤ 9223372036854775807) (hr : -9223372036854775808 ≤ r) (hr2 : r ≤ 9223372036854775807) :
    Calls Tryd.prog 21 #[.int .i64 v, .int .i64 r] w fun e w' => e = .returned (.tuple #[.int .i64 (capV (win v 1000000000000000 && win r 10000) v (10000 - r) 10000 false), .int .i64 (capC (win v 1000000000000000 && win r 10000) v (10000 - r) 10000 false)]) ∧ w = w' := by
  cases tr : win r 10000
  · rw [Bool.and_false]
    go_enter Tryd.func21, Tryd.ntmps21
    go_wp2_with (first
      | (go_at_call 31; refine (within_any _ _ _).mono ?_; rintro e w' ⟨rfl, rfl⟩))
    go_ret2
    exact ⟨rfl, rfl⟩
  · obtain ⟨r0, r1⟩ := win_yes tr
    rw [Bool.and_true]
    have hs : win (10000 - r) 10000 = true := win_mk (by omega) (by omega)
    have hp := refPart_any v (10000 - r) false w hv hv2 (by omega) (by omega)
    rw [hs, Bool.and_true] at hp
    replace hp := hidden hp
    clear hs
    go_enter Tryd.func21, Tryd.ntmps21
    go_wp2_with (first
      | (go_at_call 31; refine (within_any _ _ _).mono ?_; rintro e w' ⟨rfl, rfl⟩)
      | (go_at_call 33; refine hp.out.mono ?_; rintro e w' ⟨rfl, rfl⟩))
    go_ret2
    exact ⟨rfl, rfl⟩
def RTotRel (xs : List Int) (i : Value) : Prop := ∃ k : Nat, i = .int .i64 (k : Int) ∧ k ≤ xs.length ∧ inAll (xs.take k) = true
end Go.Proofs.YtphpmngaljldgaaDoor
