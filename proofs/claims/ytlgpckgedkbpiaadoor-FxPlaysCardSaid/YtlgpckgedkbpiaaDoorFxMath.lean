/-
  Rates, as a function of a currency's number (pure).
-/
import Derived.Test.YtlgpckgedkbpiaaDoorRet
namespace Go.Proofs.YtlgpckgedkbpiaaDoor
open Go.RowKit
set_option linter.unusedVariables false

def raOk (m r : Int) : Prop := (2 ≤ m ∧ m ≤ 6) ∧ 1 ≤ r ∧ r ≤ 1000000000
instance raOk_dec (m r : Int) : Decidable (raOk m r) := by unfold raOk; infer_instance
def raC (m r : Int) : Int := if raOk m r then 0 else 103
def raT (f : Nat → Int) (m r : Int) : Nat → Int := if raOk m r then fun i => if (i : Int) = m then r else f i else f
def raV (f : Nat → Int) (m : Int) : Int := if m = 1 then 1000000 else if 2 ≤ m ∧ m ≤ 6 then f m.toNat else 0
def raB (f : Nat → Int) (m : Int) : Bool := raV f m != 0
def ra0 : Nat → Int := fun _ => 0
/-- every rate is from 0 to the greatest. -/
def RaT (f : Nat → Int) : Prop := ∀ i, 0 ≤ f i ∧ f i ≤ 1000000000
theorem ra0_ok : RaT ra0 := fun i => ⟨Int.le_refl _, by unfold ra0; decide⟩
theorem RaT.set {f : Nat → Int} (h : RaT f) (m r : Int) : RaT (raT f m r) := by
  unfold raT
  by_cases hx : raOk m r
  · rw [if_pos hx]
    intro i
    dsimp only
    by_cases e : (i : Int) = m
    · rw [if_pos e]; unfold raOk at hx; omega
    · rw [if_neg e]; exact h i
  · rw [if_neg hx]; exact h
theorem RaT.val {f : Nat → Int} (h : RaT f) (m : Int) : 0 ≤ raV f m ∧ raV f m ≤ 1000000000 := by
  unfold raV
  split
  · decide
  · split
    · exact h _
    · decide
theorem raC_code (m r : Int) : raC m r = 0 ∨ raC m r = 103 := by
  unfold raC
  split
  · exact .inl rfl
  · exact .inr rfl
theorem raB_base (f : Nat → Int) : raV f 1 = 1000000 ∧ raB f 1 = true := ⟨rfl, rfl⟩
/-- the currencies that have a rate, of the first k. -/
def raL (f : Nat → Int) : Nat → List Int
  | 0 => []
  | k + 1 => raL f k ++ if raB f ((k : Int) + 1) then [(k : Int) + 1] else []
theorem raL_len (f : Nat → Int) : ∀ k, (raL f k).length ≤ k
  | 0 => Nat.le_refl _
  | k + 1 => by
    have := raL_len f k
    unfold raL
    split <;> simp <;> omega
theorem raL_yes {f : Nat → Int} {k : Nat} (h : raB f ((k : Int) + 1) = true) : raL f (k + 1) = raL f k ++ [(k : Int) + 1] := by
  show raL f k ++ (if raB f ((k : Int) + 1) then [(k : Int) + 1] else []) = _
  rw [h]; rfl
theorem raL_no {f : Nat → Int} {k : Nat} (h : raB f ((k : Int) + 1) = false) : raL f (k + 1) = raL f k := by
  show raL f k ++ (if raB f ((k : Int) + 1) then [(k : Int) + 1] else []) = _
  rw [h]; simp
/-- the five currencies but the base: a rate that is set, one that is none. -/
theorem raV_ways (f : Nat → Int) (m : Int) : (m = 1 ∧ raV f m = 1000000) ∨ (m ≠ 1 ∧ 2 ≤ m ∧ m ≤ 6 ∧ raV f m = f m.toNat) ∨ (m ≠ 1 ∧ ¬ (2 ≤ m ∧ m ≤ 6) ∧ raV f m = 0) := by
  unfold raV
  by_cases h : m = 1
  · exact .inl ⟨h, if_pos h⟩
  · by_cases h2 : 2 ≤ m ∧ m ≤ 6
    · exact .inr (.inl ⟨h, h2.1, h2.2, by rw [if_neg h, if_pos h2]⟩)
    · exact .inr (.inr ⟨h, h2, by rw [if_neg h, if_neg h2]⟩)
end Go.Proofs.YtlgpckgedkbpiaaDoor
