/-
  What Sum answers, and how two products stand.
-/
import Derived.Test.YtaojahjgfgmpfaaDoorFix
import Derived.Test.YtaojahjgfgmpfaaDoorShare
import Derived.LoopTactic
namespace Go.Proofs.YtaojahjgfgmpfaaDoor
open Go.RowKit

def total (l : List Int) : Int := l.foldl (· + ·) 0
theorem total_snoc (l : List Int) (x : Int) : total (l ++ [x]) = total l + x := by simp [total]
theorem take_snoc0 (xs : List Int) (k : Nat) (h : k < xs.length) : xs.take (k + 1) = xs.take k ++ [xs.getD k 0] := by
  rw [List.take_succ_eq_append_getElem h, List.getD_eq_getElem?_getD, List.getElem?_eq_getElem h]; rfl

def SumRel (xs : List Int) (s r i : Value) : Prop :=
  ∃ (k : Nat) (S R : Int), i = .int .i64 (k : Int) ∧ k ≤ xs.length ∧ s = .int .i64 S ∧ r = .int .i64 R ∧ -9223372036854775808 ≤ S ∧ S ≤ 9223372036854775807 ∧ -(k : Int) ≤ R ∧ R ≤ k ∧ total (xs.take k) = S + R * 18446744073709551616

theorem sum_step {T S R n : Int} (h : T = S + R * 18446744073709551616) (S0 : -9223372036854775808 ≤ S) (S1 : S ≤ 9223372036854775807) (n0 : -9223372036854775808 ≤ n) (n1 : n ≤ 9223372036854775807) :
    (in64 (S + n) = true → wrap64 (S + n) = S + n ∧ T + n = (S + n) + R * 18446744073709551616) ∧
    (in64 (S + n) = false → 0 < n → T + n = wrap64 (S + n) + (R + 1) * 18446744073709551616) ∧
    (in64 (S + n) = false → ¬ 0 < n → T + n = wrap64 (S + n) + (R - 1) * 18446744073709551616) := by
  rw [in64_iff, in64_no]; unfold wrap64; omega

theorem wrap64_bd (x : Int) : -9223372036854775808 ≤ wrap64 x ∧ wrap64 x ≤ 9223372036854775807 := by unfold wrap64; omega

/-- what Compare of two numbers answers. -/
def cmpv (x y : Int) : Int := if x < y then -1 else if y < x then 1 else 0
theorem cmpv_lt {x y : Int} (h : x < y) : cmpv x y = -1 := if_pos h
theorem cmpv_gt {x y : Int} (h : y < x) : cmpv x y = 1 := by unfold cmpv; rw [if_neg (by omega), if_pos h]
theorem cmpv_eq {x y : Int} (h : x = y) : cmpv x y = 0 := by unfold cmpv; rw [if_neg (by omega), if_neg (by omega)]

theorem nanI_any (x : Int) (w : World) : Calls Tryd.prog 82 #[.int .i64 x] w fun e w' => e = .returned (.bool false) ∧ w = w' := by
  go_enter Tryd.func82, Tryd.ntmps82
  go_wp2
  go_ret
  exact ⟨rfl, rfl⟩
theorem nanU_any (x : Int) (w : World) : Calls Tryd.prog 83 #[.int .u64 x] w fun e w' => e = .returned (.bool false) ∧ w = w' := by
  go_enter Tryd.func83, Tryd.ntmps83
  go_wp2
  go_ret
  exact ⟨rfl, rfl⟩

theorem cmpI_any (x y : Int) (w : World) :
    Calls Tryd.prog 71 #[.int .i64 x, .int .i64 y] w fun e w' => e = .returned (.int .i64 (cmpv x y)) ∧ w = w' := by
  rcases Int.lt_trichotomy x y with h | h | h
  · have hc := hidden (cmpv_lt h)
    go_enter Tryd.func71, Tryd.ntmps71
    go_wp2_with (go_at_call 82; refine (nanI_any _ _).mono ?_; rintro e w' ⟨rfl, rfl⟩)
    go_ret
    exact ⟨ret_int hc.out.symm, rfl⟩
  · subst h
    have hc := hidden (cmpv_eq (x := x) rfl)
    go_enter Tryd.func71, Tryd.ntmps71
    go_wp2_with (go_at_call 82; refine (nanI_any _ _).mono ?_; rintro e w' ⟨rfl, rfl⟩)
    go_ret
    exact ⟨ret_int hc.out.symm, rfl⟩
  · have hc := hidden (cmpv_gt h)
    have h2 : ¬ x < y := by omega
    go_enter Tryd.func71, Tryd.ntmps71
    go_wp2_with (go_at_call 82; refine (nanI_any _ _).mono ?_; rintro e w' ⟨rfl, rfl⟩)
    go_ret
    exact ⟨ret_int hc.out.symm, rfl⟩
theorem cmpU_any (x y : Int) (w : World) :
    Calls Tryd.prog 72 #[.int .u64 x, .int .u64 y] w fun e w' => e = .returned (.int .i64 (cmpv x y)) ∧ w = w' := by
  rcases Int.lt_trichotomy x y with h | h | h
  · have hc := hidden (cmpv_lt h)
    go_enter Tryd.func72, Tryd.ntmps72
    go_wp2_with (go_at_call 83; refine (nanU_any _ _).mono ?_; rintro e w' ⟨rfl, rfl⟩)
    go_ret
    exact ⟨ret_int hc.out.symm, rfl⟩
  · subst h
    have hc := hidden (cmpv_eq (x := x) rfl)
    go_enter Tryd.func72, Tryd.ntmps72
    go_wp2_with (go_at_call 83; refine (nanU_any _ _).mono ?_; rintro e w' ⟨rfl, rfl⟩)
    go_ret
    exact ⟨ret_int hc.out.symm, rfl⟩
  · have hc := hidden (cmpv_gt h)
    have h2 : ¬ x < y := by omega
    go_enter Tryd.func72, Tryd.ntmps72
    go_wp2_with (go_at_call 83; refine (nanU_any _ _).mono ?_; rintro e w' ⟨rfl, rfl⟩)
    go_ret
    exact ⟨ret_int hc.out.symm, rfl⟩

def orv (x y : Int) : Int := if x = 0 then y else x
theorem orv_no {x y : Int} (h : x ≠ 0) : orv x y = x := if_neg h
theorem orv_yes (y : Int) : orv 0 y = y := if_pos rfl
def OrRel (x y : Int) (i : Value) : Prop := i = .int .i64 0 ∨ (i = .int .i64 1 ∧ x = 0) ∨ (i = .int .i64 2 ∧ x = 0 ∧ y = 0)
theorem or_any (b o : Nat) (x y : Int) (w : World) (hx : w.cell? ⟨b, o, none⟩ = some (.int .i64 x)) (hy : w.cell? ⟨b, o + 1, none⟩ = some (.int .i64 y)) :
    Calls Tryd.prog 70 #[.slice (some ⟨b, o, none⟩) 2 2] w fun e w' => e = .returned (.int .i64 (orv x y)) ∧ w = w' := by
  go_enter Tryd.func70, Tryd.ntmps70
  go_wp2_with fail
  go_loop [8] (fun i => OrRel x y i) (fun i => 2 - (intOf i).toNat)
  case atStart => exact .inl rfl
  case round =>
    rcases hrel with rfl | ⟨rfl, h0⟩ | ⟨rfl, h0, h1⟩
    · by_cases hz : x = 0
      · subst hz
        go_wp2
        go_round
        case rel => exact .inr (.inl ⟨rfl, rfl⟩)
        case measure => simp [intOf]
      · have hne : (x != 0) = true := by simpa using hz
        have hz' := hidden hz
        clear hz
        go_wp2
        go_ret
        exact ⟨ret_int (orv_no hz'.out).symm, rfl⟩
    · subst h0
      by_cases hz : y = 0
      · subst hz
        go_wp2
        go_round
        case rel => exact .inr (.inr ⟨rfl, rfl, rfl⟩)
        case measure => simp [intOf]
      · have hne : (y != 0) = true := by simpa using hz
        clear hz
        go_wp2
        go_ret
        exact ⟨ret_int (orv_yes _).symm, rfl⟩
    · subst h0
      subst h1
      go_wp2
      go_ret
      exact ⟨ret_int (orv_yes _).symm, rfl⟩

theorem cell2_new (w : World) (T : TypeId) (p q : Value) : (w.alloc (.cells #[p, q] T)).cell? ⟨w.heap.size, 0, none⟩ = some p ∧ (w.alloc (.cells #[p, q] T)).cell? ⟨w.heap.size, 0 + 1, none⟩ = some q := by
  constructor <;> rw [World.cell?_alloc_at _ _ _ _ rfl] <;> rfl

theorem fixCmp_any (a b c d : Int) (w : World) (ha : -9223372036854775808 ≤ a) (ha2 : a ≤ 9223372036854775807) (hb : -9223372036854775808 ≤ b) (hb2 : b ≤ 9223372036854775807) (hc : -9223372036854775808 ≤ c) (hc2 : c ≤ 9223372036854775807) (hd : -9223372036854775808 ≤ d) (hd2 : d ≤ 9223372036854775807) :
    Calls Tryd.prog 57 #[.int .i64 a, .int .i64 b, .int .i64 c, .int .i64 d] w fun e w' => e = .returned (.int .i64 (cmpv (a * b) (c * d))) ∧ Below w.heap.size w w' := by
  have hcv : Hid (orv (cmpv (hi64 (a * b)) (hi64 (c * d))) (cmpv (lo64 (a * b)) (lo64 (c * d))) = cmpv (a * b) (c * d)) := by
    show _ = _
    generalize a * b = p
    generalize c * d = q
    unfold orv cmpv hi64 lo64
    split <;> split <;> (try split) <;> (try split) <;> (try split) <;> omega
  go_enter Tryd.func57, Tryd.ntmps57
  go_wp2_with (first
    | (go_at_call 69; refine (product_any _ _ _ (by assumption) (by assumption) (by assumption) (by assumption)).mono ?_; rintro e w' ⟨rfl, rfl⟩)
    | (go_at_call 71; refine (cmpI_any _ _ _).mono ?_; rintro e w' ⟨rfl, rfl⟩)
    | (go_at_call 72; refine (cmpU_any _ _ _).mono ?_; rintro e w' ⟨rfl, rfl⟩))
  refine (or_any _ _ _ _ _ (cell2_new _ _ _ _).1 (cell2_new _ _ _ _).2).mono ?_
  rintro e w' ⟨rfl, rfl⟩
  go_wp2
  go_ret
  exact ⟨ret_int hcv.out, (Below.refl _ _).alloc (Nat.le_refl _) _⟩
end Go.Proofs.YtaojahjgfgmpfaaDoor
