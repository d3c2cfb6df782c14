/-
  What Sum answers, and how two products stand.
-/
import Derived.Test.YtphpmngaljldgaaDoorFix
import Derived.Test.YtphpmngaljldgaaDoorShare
import Derived.LoopTactic
namespace Go.Proofs.YtphpmngaljldgaaDoor
open Go.RowKit

def total (l : List Int) : Int := l.foldl (· + ·) 0
theorem total_snoc (l : List Int) (x : Int) : total (l ++ [x]) = total l + x := by simp [total]
theorem take_snoc0 (xs : List Int) (k : Nat) (h : k < xs.length) : xs.take (k + 1) = xs.take k ++ [xs.getD k 0] := by
  rw [List.take_succ_eq_append_getElem h, List.getD_eq_getElem?_getD, List.getElem?_eq_getElem h]; rfl

def SumRel (xs : List Int) (s r i : Value) : Prop :=
  ∃ (k : Nat) (S R : Int), i = .int .i64 (k : Int) ∧ k ≤ xs.length ∧ s = .int .i64 S ∧ r = .int .i64 R ∧ -9223372036854775808 ≤ S ∧ S ≤ 9223372036854775807 ∧ -(k : Int) ≤ R ∧ R ≤ k ∧ total (xs.take k) = S + R * 18446744073709551616

theorem sum_step {T S R n : Int} (h : T = S + R * 18446744073709551616) (S0 : -9223372036854775808 ≤ S) (S1 : S ≤ 9223372036854775807) (n0 : -9223372036854775808 ≤ n) (n1 : n ≤ 9223372036854775807) :
    (in64 (S + n) = true → wrap64 (S + n) = S + n ∧ T + n = (S + n) + R * 18446744073709551616) ∧
    (in64 (S + n) = false → 0 < n → T + n = wrap64 (S + n) + (R + 1) * 18446744073709551616) ∧
    (in64 (S + n) = false → ¬ 0 < n → T + n = wrap64 (S + n) + (R - 1) * 18446744073709551616) := by
  rw [in64_iff, in64_no]; unfold wrap64; omega

theorem wrap64_bd (x : Int) : -9223372036854775808 ≤ wrap64 x ∧ wrap64 x ≤ 9223372036854775807 := by unfold wrap64; omega

/-- what Compare of two numbers answers. -/
def cmpv (x y : Int) : Int := if x < y then -1 else if y < x then 1 else 0
theorem cmpv_lt {x y : Int} (h : x < y) : cmpv x y = -1 := if_pos h
theorem cmpv_gt {x y : Int} (h : y < x) : cmpv x y = 1 := by unfold cmpv; rw [if_neg (by omega), if_pos h]
theorem cmpv_eq {x y : Int} (h : x = y) : cmpv x y = 0 := by unfold cmpv; rw [if_neg (by omega), if_neg (by omega)]

def orv (x y : Int) : Int := if x = 0 then y else x
theorem orv_no {x y : Int} (h : x ≠ 0) : orv x y = x := if_neg h
theorem orv_yes (y : Int) : orv 0 y = y := if_pos rfl
def OrRel (x y : Int) (i : Value) : Prop := i = .int .i64 0 ∨ (i = .int .i64 1 ∧ x = 0) ∨ (i = .int .i64 2 ∧ x = 0 ∧ y = 0)
theorem cell2_new (w : World) (T : TypeId) (p q : Value) : (w.alloc (.cells #[p, q] T)).cell? ⟨w.heap.size, 0, none⟩ = some p ∧ (w.alloc (.cells #[p, q] T)).cell? ⟨w.heap.size, 0 + 1, none⟩ = some q := by
  constructor <;> rw [World.cell?_alloc_at _ _ _ _ rfl] <;> rfl

end Go.Proofs.YtphpmngaljldgaaDoor
