/-
  The lot that costs least, as the code goes through them.
-/
import Derived.Test.YtaojahjgfgmpfaaDoorBoundMath
namespace Go.Proofs.YtaojahjgfgmpfaaDoor
open Go Go.RowKit
set_option linter.unusedVariables false

/-- one lot more. -/
def chS (b x : Lt) : Lt := if x.v = 0 ∨ x.u = 0 then b else if b.v = 0 ∨ x.c * b.v < b.c * x.v then x else b
/-- the cheapest among the first k. -/
def chT (l : List Lt) : Nat → Lt
  | 0 => ltZ
  | k + 1 => chS (chT l k) (l.getD k ltZ)
theorem chS_ways (b x : Lt) : (x.v = 0 ∧ chS b x = b) ∨ (¬ x.v = 0 ∧ x.u = 0 ∧ chS b x = b) ∨ (¬ x.v = 0 ∧ ¬ x.u = 0 ∧ b.v = 0 ∧ chS b x = x) ∨ (¬ x.v = 0 ∧ ¬ x.u = 0 ∧ ¬ b.v = 0 ∧ x.c * b.v < b.c * x.v ∧ chS b x = x) ∨ (¬ x.v = 0 ∧ ¬ x.u = 0 ∧ ¬ b.v = 0 ∧ ¬ x.c * b.v < b.c * x.v ∧ chS b x = b) := by
  unfold chS
  by_cases h1 : x.v = 0
  · exact .inl ⟨h1, if_pos (.inl h1)⟩
  · by_cases h2 : x.u = 0
    · exact .inr (.inl ⟨h1, h2, if_pos (.inr h2)⟩)
    · rw [if_neg (by omega)]
      by_cases h3 : b.v = 0
      · exact .inr (.inr (.inl ⟨h1, h2, h3, if_pos (.inl h3)⟩))
      · by_cases h4 : x.c * b.v < b.c * x.v
        · exact .inr (.inr (.inr (.inl ⟨h1, h2, h3, h4, if_pos (.inr h4)⟩)))
        · exact .inr (.inr (.inr (.inr ⟨h1, h2, h3, h4, if_neg (fun q => q.elim h3 h4)⟩)))
theorem chT_big (l : List Lt) (h : ∀ x ∈ l, ltBig x) : ∀ k, k ≤ l.length → ltBig (chT l k)
  | 0, _ => by unfold chT ltZ ltBig In64; simp
  | k + 1, hk => by
    have ih := chT_big l h k (by omega)
    have hx : ltBig (l.getD k ltZ) := by
      rw [List.getD_eq_getElem?_getD, List.getElem?_eq_getElem (by omega)]; exact h _ (List.getElem_mem _)
    show ltBig (chS _ _)
    unfold chS
    split
    · exact ih
    · split
      · exact hx
      · exact ih
/-- none so far has a value where the rate's place is none; else it is that lot. -/
def chOf (L : List Lt) : Option Nat → Lt
  | none => ltZ
  | some r => L.getD r ltZ
theorem rtTo_next (L : List Lt) (f k : Nat) : rtTo L f (f + k + 1) = if ratedB (L.getD (f + k) ltZ) = true then (match rtTo L f (f + k) with
      | none => some (f + k)
      | some r => if dear (L.getD r ltZ) (L.getD (f + k) ltZ) = true then some (f + k) else some r) else rtTo L f (f + k) := by
  show (if (decide (f ≤ f + k) && ratedB (L.getD (f + k) ltZ)) = true then _ else _) = _
  rw [decide_eq_true (Nat.le_add_right f k), Bool.true_and]
  rfl
theorem chT_rate {L : List Lt} {C : List Int} {n : Int} (h : OkP L C n) (f : Nat) : ∀ k, f + k ≤ L.length → chT (L.drop f) k = chOf L (rtTo L f (f + k))
  | 0, hk => by
    show ltZ = chOf L (rtTo L f (f + 0))
    have : rtTo L f (f + 0) = none := by
      cases hr : rtTo L f (f + 0) with
      | none => rfl
      | some j =>
        have := (rateIs_to L f (f + 0)).2 j hr
        omega
    rw [this]
    rfl
  | k + 1, hk => by
    have ih := chT_rate h f k (by omega)
    have e : (L.drop f).getD k ltZ = L.getD (f + k) ltZ := by
      rw [List.getD_eq_getElem?_getD, List.getD_eq_getElem?_getD, List.getElem?_drop]
    show chS (chT (L.drop f) k) ((L.drop f).getD k ltZ) = chOf L (rtTo L f (f + k + 1))
    rw [ih, e]
    have hx := h.lot (k := f + k) (by omega)
    rw [rtTo_next]
    cases hr : ratedB (L.getD (f + k) ltZ)
    · rw [if_neg (by simp)]
      have : ¬ (0 < (L.getD (f + k) ltZ).v ∧ 0 < (L.getD (f + k) ltZ).u) := fun z => by rw [ratedB_iff.2 z] at hr; cases hr
      unfold ltOk at hx
      unfold chS
      rw [if_pos (by omega)]
    · have hv := ratedB_iff.1 hr
      rw [if_pos rfl]
      cases hb : rtTo L f (f + k) with
      | none =>
        show chS ltZ _ = L.getD (f + k) ltZ
        unfold chS
        rw [if_neg (by omega), if_pos (.inl rfl)]
      | some r =>
        obtain ⟨q1, q2, q3, q4⟩ := (rateIs_to L f (f + k)).2 r hb
        have hrv := ratedB_iff.1 q3
        have hd := dear_iff q3 hr
        show chS (L.getD r ltZ) (L.getD (f + k) ltZ) = chOf L (if dear (L.getD r ltZ) (L.getD (f + k) ltZ) = true then some (f + k) else some r)
        unfold chS
        rw [if_neg (by omega)]
        by_cases hh : dear (L.getD r ltZ) (L.getD (f + k) ltZ) = true
        · rw [if_pos hh, if_pos (.inr (hd.1 hh))]; rfl
        · rw [if_neg hh, if_neg (by have := mt hd.2 hh; omega)]; rfl
/-- the cheapest of those from one on. -/
def chL (L : List Lt) (f : Nat) : Lt := chT (L.drop f) (L.drop f).length
theorem chL_rate {L : List Lt} {C : List Int} {n : Int} (h : OkP L C n) {f : Nat} (hf : f ≤ L.length) : chL L f = chOf L (rtOf L f) := by
  have := chT_rate h f (L.length - f) (by omega)
  unfold chL rtOf
  rw [List.length_drop, this, show f + (L.length - f) = L.length by omega]
end Go.Proofs.YtaojahjgfgmpfaaDoor
