/-
  One cell of one element of a slice of structs is written.
-/
import Derived.Test.YtaojahjgfgmpfaaDoorRow
import Derived.Laws.World
namespace Go.Proofs.YtaojahjgfgmpfaaDoor
open Go.RowKit
set_option linter.unusedVariables false

theorem div_part {k s j : Nat} (hj : j < s) : (k * s + j) / s = k ∧ (k * s + j) % s = j := by
  have hs : 0 < s := by omega
  constructor
  · rw [Nat.mul_comm, Nat.mul_add_div hs, Nat.div_eq_of_lt hj]; rfl
  · rw [Nat.mul_comm, Nat.mul_add_mod, Nat.mod_eq_of_lt hj]
theorem row_put {α : Type} {f : α → List Value} {s : Nat} (hf : ∀ a, (f a).length = s) (d : α) {w : World} {b o n c : Nat} {l : List α} (h : Row f s w (.slice (some ⟨b, o, none⟩) n c) l) (k : Nat) (hk : k < n) (j : Nat) (hj : j < s) (u : Value) (a' : α) (he : f a' = (f (l.getD k d)).set j u) :
    Row f s (w.setCell ⟨b, o + (k * s + j), none⟩ u) (.slice (some ⟨b, o, none⟩) n c) (l.set k a') := by
  obtain ⟨a0, c0, e, h1, h2, h3, h5⟩ := h
  simp only [Value.slice.injEq] at e
  obtain ⟨rfl, rfl, rfl⟩ := e
  refine ⟨some ⟨b, o, none⟩, c, by rw [List.length_set], by rw [List.length_set]; exact h1, h2, (fun q => by cases q), fun ad had i hi => ?_⟩
  obtain rfl := Option.some.inj had
  rw [List.length_set] at hi
  obtain ⟨_, h6⟩ := h5 _ rfl i hi
  simp only at h6
  have hs : 0 < s := by omega
  refine ⟨rfl, ?_⟩
  have hml := Nat.mod_lt i hs
  have hdl : i / s < l.length := Nat.div_lt_of_lt_mul (by rw [Nat.mul_comm]; exact hi)
  have ei : i / s * s + i % s = i := by rw [Nat.mul_comm]; exact Nat.div_add_mod i s
  have hold : (l.flatMap f)[i]? = (f (l.getD (i / s) d))[i % s]? := by
    have := flatR_at hf d l (i / s) (i % s) hdl hml
    rwa [ei] at this
  have hnew : ((l.set k a').flatMap f)[i]? = (f ((l.set k a').getD (i / s) d))[i % s]? := by
    have := flatR_at hf d (l.set k a') (i / s) (i % s) (by simpa using hdl) hml
    rwa [ei] at this
  rw [hnew]
  have hln := hf (l.getD k d)
  by_cases q0 : i = k * s + j
  · obtain ⟨q, q2⟩ := div_part (k := k) hj
    rw [← q0] at q q2
    have eg : (l.set k a').getD (i / s) d = a' := by rw [List.getD_eq_getElem?_getD, q, List.getElem?_set_self (by omega)]; rfl
    rw [eg, he, List.getElem?_set, if_pos q2.symm, if_pos (by omega), q0]
    obtain ⟨v0, hv0⟩ : ∃ v0, w.cell? ⟨b, o + i, none⟩ = some v0 := by
      rw [h6, hold, List.getElem?_eq_getElem (by rw [hf]; exact hml)]
      exact ⟨_, rfl⟩
    rw [q0] at hv0
    exact World.cell?_setCell_same _ _ u hv0
  · have ha : (⟨b, o + (k * s + j), none⟩ : Addr) ≠ ⟨b, o + i, none⟩ := fun z => q0 (by simp only [Addr.mk.injEq, true_and, and_true] at z; omega)
    show (w.setCell ⟨b, o + (k * s + j), none⟩ u).cell? ⟨b, o + i, none⟩ = _
    rw [World.cell?_setCell_other (h := ha), h6, hold]
    by_cases q : i / s = k
    · have eg : (l.set k a').getD (i / s) d = a' := by rw [List.getD_eq_getElem?_getD, q, List.getElem?_set_self (by omega)]; rfl
      have q2 : ¬ j = i % s := fun z => q0 (by rw [← ei, q, z])
      rw [eg, he, List.getElem?_set, if_neg q2, q]
    · have eg : (l.set k a').getD (i / s) d = l.getD (i / s) d := by
        rw [List.getD_eq_getElem?_getD, List.getElem?_set_ne (fun z => q z.symm), ← List.getD_eq_getElem?_getD]
      rw [eg]
end Go.Proofs.YtaojahjgfgmpfaaDoor
