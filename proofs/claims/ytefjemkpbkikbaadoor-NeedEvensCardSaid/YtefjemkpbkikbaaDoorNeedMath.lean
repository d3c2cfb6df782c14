/-
  States: how much is needed, how much there is; what lacks; the worst; all that lacks.
-/
import Derived.Test.YtefjemkpbkikbaaDoorRet
import Derived.Test.YtefjemkpbkikbaaDoorSums
namespace Go.Proofs.YtefjemkpbkikbaaDoor
open Go Go.RowKit
set_option linter.unusedVariables false

structure Nd where
  n : Int
  h : Int
/-- within its bounds. -/
def ndOk (s : Nd) : Prop := (0 ≤ s.n ∧ s.n ≤ 1000000000000000) ∧ (0 ≤ s.h ∧ s.h ≤ 1000000000000000)
instance (s : Nd) : Decidable (ndOk s) := by unfold ndOk; infer_instance
def ndBig (s : Nd) : Prop := (-9223372036854775808 ≤ s.n ∧ s.n ≤ 9223372036854775807) ∧ (-9223372036854775808 ≤ s.h ∧ s.h ≤ 9223372036854775807)
theorem ndOk.big {s : Nd} (h : ndOk s) : ndBig s := by unfold ndOk at h; unfold ndBig; omega
abbrev ndV (s : Nd) : List Value := [.int .i64 s.n, .int .i64 s.h]
abbrev ndA (s : Nd) : Value := .agg #[.int .i64 s.n, .int .i64 s.h]
def ndZ : Nd := ⟨0, 0⟩
theorem ndV_len (s : Nd) : (ndV s).length = 2 := rfl
theorem ndV_one (s : Nd) : ∀ u ∈ ndV s, u.oneCell' = true := fun u hu => by
  simp only [ndV, List.mem_cons, List.not_mem_nil, or_false] at hu
  rcases hu with rfl | rfl <;> rfl
/-- what lacks. -/
def shV (s : Nd) : Int := if ndOk s then max (s.n - s.h) 0 else 0
/-- what there is above. -/
def spV (s : Nd) : Int := shV ⟨s.h, s.n⟩
def ndC (s : Nd) : Int := if ndOk s then 0 else 103
theorem shV_ok {s : Nd} (h : ndOk s) : shV s = max (s.n - s.h) 0 := if_pos h
theorem shV_no {s : Nd} (h : ¬ ndOk s) : shV s = 0 := if_neg h
theorem shV_bd (s : Nd) : 0 ≤ shV s ∧ shV s ≤ 1000000000000000 := by
  unfold shV
  split
  · rename_i h; unfold ndOk at h; omega
  · omega
theorem ndOk_turn {s : Nd} : ndOk ⟨s.h, s.n⟩ ↔ ndOk s := by unfold ndOk; simp only; omega
theorem spV_ok {s : Nd} (h : ndOk s) : spV s = max (s.h - s.n) 0 := if_pos (ndOk_turn.2 h)
theorem ndC_code (s : Nd) : ndC s = 0 ∨ ndC s = 103 := by unfold ndC; split <;> simp

def sumS (l : List Nd) : Int := total (l.map shV)
theorem sumS_snoc (l : List Nd) (s : Nd) : sumS (l ++ [s]) = sumS l + shV s := by
  unfold sumS
  rw [List.map_append]
  exact total_snoc _ _
theorem sumS_nil : sumS [] = 0 := rfl
theorem take_snocN (l : List Nd) (k : Nat) (h : k < l.length) : l.take (k + 1) = l.take k ++ [l.getD k ndZ] := by
  rw [List.take_succ_eq_append_getElem h, List.getD_eq_getElem?_getD, List.getElem?_eq_getElem h]; rfl
theorem getN_mem {l : List Nd} {k : Nat} (h : k < l.length) : l.getD k ndZ ∈ l := by
  rw [List.getD_eq_getElem?_getD, List.getElem?_eq_getElem h]; exact List.getElem_mem h
theorem getN_all {l : List Nd} {p : Nd → Prop} (h : ∀ j, j < l.length → p (l.getD j ndZ)) : ∀ x ∈ l, p x := fun x hx => by
  obtain ⟨j, hj, rfl⟩ := List.getElem_of_mem hx
  have := h j hj
  rw [List.getD_eq_getElem?_getD, List.getElem?_eq_getElem hj] at this
  exact this
theorem sumS_take (l : List Nd) (k : Nat) (h : k < l.length) : sumS (l.take (k + 1)) = sumS (l.take k) + shV (l.getD k ndZ) := by
  rw [take_snocN l k h, sumS_snoc]
theorem sumS_bd (l : List Nd) : ∀ k, k ≤ l.length → 0 ≤ sumS (l.take k) ∧ sumS (l.take k) ≤ (k : Int) * 1000000000000000
  | 0, _ => by rw [List.take_zero, sumS_nil]; omega
  | k + 1, h => by
    have ih := sumS_bd l k (by omega)
    have := shV_bd (l.getD k ndZ)
    rw [sumS_take l k (by omega)]
    omega
theorem sumS_all (l : List Nd) : 0 ≤ sumS l ∧ sumS l ≤ (l.length : Int) * 1000000000000000 := by
  have := sumS_bd l l.length (Nat.le_refl _)
  rwa [List.take_length] at this

/-- among the first k, p is the place of the first that lacks the most, m; 0 and 0 if none lacks. -/
def WsAt (l : List Nd) (k p : Nat) (m : Int) : Prop :=
  0 ≤ m ∧ m ≤ 1000000000000000 ∧ (∀ j, j < k → shV (l.getD j ndZ) ≤ m) ∧ (m = 0 → p = 0) ∧ (0 < m → p < k ∧ shV (l.getD p ndZ) = m ∧ ∀ j, j < p → shV (l.getD j ndZ) < m)
theorem wsAt_nil (l : List Nd) : WsAt l 0 0 0 := ⟨by omega, by omega, fun j h => by omega, fun _ => rfl, fun h => by omega⟩
theorem wsAt_new {l : List Nd} {k p : Nat} {m : Int} (h : WsAt l k p m) (hm : m < shV (l.getD k ndZ)) : WsAt l (k + 1) k (shV (l.getD k ndZ)) := by
  obtain ⟨h0, h1, h2, h3, h4⟩ := h
  have hb := shV_bd (l.getD k ndZ)
  refine ⟨by omega, by omega, fun j hj => ?_, fun e => by omega, fun _ => ⟨by omega, rfl, fun j hj => ?_⟩⟩
  · by_cases e : j = k
    · subst e; omega
    · have := h2 j (by omega); omega
  · have := h2 j hj; omega
theorem wsAt_old {l : List Nd} {k p : Nat} {m : Int} (h : WsAt l k p m) (hm : shV (l.getD k ndZ) ≤ m) : WsAt l (k + 1) p m := by
  obtain ⟨h0, h1, h2, h3, h4⟩ := h
  refine ⟨h0, h1, fun j hj => ?_, h3, fun e => ?_⟩
  · by_cases e : j = k
    · subst e; exact hm
    · exact h2 j (by omega)
  · obtain ⟨q1, q2, q3⟩ := h4 e
    exact ⟨by omega, q2, q3⟩
theorem wsAt_one {l : List Nd} {k p q : Nat} {m n : Int} (h : WsAt l k p m) (g : WsAt l k q n) : p = q ∧ m = n := by
  obtain ⟨h0, h1, h2, h3, h4⟩ := h
  obtain ⟨g0, g1, g2, g3, g4⟩ := g
  have e : m = n := by
    by_cases a : 0 < m
    · obtain ⟨x1, x2, x3⟩ := h4 a
      have := g2 p x1
      by_cases b : 0 < n
      · obtain ⟨y1, y2, y3⟩ := g4 b
        have := h2 q y1
        omega
      · omega
    · by_cases b : 0 < n
      · obtain ⟨y1, y2, y3⟩ := g4 b
        have := h2 q y1
        omega
      · omega
  subst e
  refine ⟨?_, rfl⟩
  by_cases a : 0 < m
  · obtain ⟨x1, x2, x3⟩ := h4 a
    obtain ⟨y1, y2, y3⟩ := g4 a
    rcases Nat.lt_trichotomy p q with c | c | c
    · have := y3 p c; omega
    · exact c
    · have := x3 q c; omega
  · rw [h3 (by omega), g3 (by omega)]
theorem wsAt_sum {l : List Nd} {p : Nat} {m : Int} (h : WsAt l l.length p m) : (0 < m) ↔ 0 < sumS l := by
  obtain ⟨h0, h1, h2, h3, h4⟩ := h
  constructor
  · intro a
    obtain ⟨x1, x2, x3⟩ := h4 a
    have : ∀ k, k ≤ l.length → p < k → 0 < sumS (l.take k) := by
      intro k
      induction k with
      | zero => intro _ h; omega
      | succ k ih =>
        intro hk hp
        rw [sumS_take l k (by omega)]
        have hb := shV_bd (l.getD k ndZ)
        by_cases e : p = k
        · subst e
          have := (sumS_bd l p (by omega)).1
          omega
        · have := ih (by omega) (by omega)
          omega
    have := this l.length (Nat.le_refl _) x1
    rwa [List.take_length] at this
  · intro a
    apply Decidable.byContradiction
    intro b
    have : ∀ k, k ≤ l.length → sumS (l.take k) ≤ 0 := by
      intro k
      induction k with
      | zero => intro _; rw [List.take_zero, sumS_nil]; omega
      | succ k ih =>
        intro hk
        rw [sumS_take l k (by omega)]
        have := ih (by omega)
        have := h2 k (by omega)
        omega
    have := this l.length (Nat.le_refl _)
    rw [List.take_length] at this
    omega
/-- what Total answers: the error's number, the sum. -/
def ndTC (l : List Nd) : Int := if ∀ x ∈ l, ndOk x then (if sumS l ≤ 1000000000000000 then 0 else 104) else 103
def ndTV (l : List Nd) : Int := if ndTC l = 0 then sumS l else 0
theorem ndTC_bad {l : List Nd} (h : ¬ ∀ x ∈ l, ndOk x) : ndTC l = 103 ∧ ndTV l = 0 := by
  have e : ndTC l = 103 := if_neg h
  exact ⟨e, by unfold ndTV; rw [e]; rfl⟩
theorem ndTC_over {l : List Nd} (h : ∀ x ∈ l, ndOk x) (g : 1000000000000000 < sumS l) : ndTC l = 104 ∧ ndTV l = 0 := by
  have e : ndTC l = 104 := by unfold ndTC; rw [if_pos h, if_neg (by omega)]
  exact ⟨e, by unfold ndTV; rw [e]; rfl⟩
theorem ndTC_fine {l : List Nd} (h : ∀ x ∈ l, ndOk x) (g : sumS l ≤ 1000000000000000) : ndTC l = 0 ∧ ndTV l = sumS l := by
  have e : ndTC l = 0 := by unfold ndTC; rw [if_pos h, if_pos g]
  exact ⟨e, by unfold ndTV; rw [if_pos e]⟩
theorem ndShorts_set (l : List Nd) (k : Nat) (h : k < l.length) : ((l.take k).map shV ++ List.replicate (l.length - k) 0).set k (shV (l.getD k ndZ)) = (l.take (k + 1)).map shV ++ List.replicate (l.length - (k + 1)) 0 := by
  have e : ((l.take k).map shV).length = k := by simp; omega
  rw [List.set_append_right _ _ (by omega), e, Nat.sub_self, show l.length - k = (l.length - (k + 1)) + 1 by omega, List.replicate_succ, take_snocN l k h, List.map_append, List.append_assoc]
  rfl
end Go.Proofs.YtefjemkpbkikbaaDoor
