/-
  Assets added in an order of steps: which are there, in which order they stand, how many issuers' there are.
-/
import Derived.Test.YtbjiiddlpfjipaaDoorAssetNew
namespace Go.Proofs.YtbjiiddlpfjipaaDoor
open Go Go.RowKit
set_option linter.unusedVariables false

/-- the k-th number. -/
def stF (N P : Int) (k : Nat) : Int := (k : Int) * P % N
theorem stF_bd {N P : Int} (h : 1 ≤ N) (k : Nat) : 0 ≤ stF N P k ∧ stF N P k < N := ⟨Int.emod_nonneg _ (by omega), Int.emod_lt_of_pos _ (by omega)⟩
def stA (N P : Int) (k : Nat) : As := ⟨stF N P k + 1, (k : Int) % 3, 2, 1, 0⟩
theorem stA_ok {N P : Int} (h : 1 ≤ N) (h2 : N ≤ 32) (k : Nat) : AsOk (stA N P k) := by
  have := stF_bd (P := P) h k
  refine ⟨⟨⟨?_, ?_⟩, ⟨?_, ?_⟩, ⟨?_, ?_⟩, ⟨?_, ?_⟩, ?_, ?_⟩, fun h => ?_⟩ <;> simp only [stA] at * <;> omega
/-- was the i-th number among the first k ones? -/
def stB (N P : Int) (i k : Nat) : Bool := (List.range k).any (fun j => stF N P j == stF N P i)
theorem stB_zero (N P : Int) (i : Nat) : stB N P i 0 = false := rfl
theorem stB_next (N P : Int) (i k : Nat) : stB N P i (k + 1) = (stB N P i k || (stF N P k == stF N P i)) := by
  unfold stB
  rw [List.range_succ, List.any_append]
  simp
theorem stB_iff {N P : Int} {i k : Nat} : stB N P i k = true ↔ ∃ j, j < k ∧ stF N P j = stF N P i := by
  unfold stB
  rw [List.any_eq_true]
  simp
def stTab (N P : Int) : Nat → List As
  | 0 => tabZ
  | k + 1 => nextT (stTab N P k) (stA N P k)
theorem stTab_tab (N P : Int) : ∀ k, Tab (stTab N P k)
  | 0 => tabZ_tab
  | k + 1 => (stTab_tab N P k).add
theorem there_put {t : List As} {a : As} (h : Tab t) (ha : 1 ≤ a.i ∧ a.i ≤ 32) {x : Int} (hx : 0 ≤ x) : there (putA t a) x ↔ x = a.i ∨ there t x := by
  unfold there putA
  have hl := h.len
  rw [getA_set _ _ _ _ (by omega)]
  by_cases e : a.i.toNat = x.toNat
  · rw [if_pos e]
    have : x = a.i := by omega
    constructor
    · intro; exact .inl this
    · intro _; omega
  · rw [if_neg e]
    constructor
    · intro q; exact .inr q
    · intro q
      rcases q with q | q
      · exact absurd (by rw [q]) e
      · exact q
theorem stTab_there {N P : Int} (h : 1 ≤ N) (h2 : N ≤ 32) : ∀ (k : Nat) (i : Nat), there (stTab N P k) (stF N P i + 1) ↔ stB N P i k = true
  | 0, i => by
    rw [stB_zero]
    constructor
    · intro q; exact absurd q (thereZ _)
    · intro q; cases q
  | k + 1, i => by
    have ih := stTab_there (P := P) h h2 k
    have hok := stA_ok (P := P) h h2 k
    have hb := stF_bd (P := P) h i
    rw [stB_next, Bool.or_eq_true, beq_iff_eq, ← ih i]
    show there (nextT (stTab N P k) (stA N P k)) _ ↔ _
    by_cases ht : there (stTab N P k) (stA N P k).i
    · rw [(addC_there hok ht).2.2.1]
      constructor
      · intro q; exact .inl q
      · intro q
        rcases q with q | q
        · exact q
        · have : (stA N P k).i = stF N P i + 1 := by simp only [stA]; omega
          rw [← this]; exact ht
    · rw [(addC_new hok ht).2.2.1, there_put (stTab_tab N P k) hok.1.1 (by omega)]
      have : (stF N P i + 1 = (stA N P k).i) ↔ (stF N P k = stF N P i) := by simp only [stA]; omega
      rw [this]
      constructor
      · intro q; rcases q with q | q
        · exact .inr q
        · exact .inl q
      · intro q; rcases q with q | q
        · exact .inr q
        · exact .inl q
theorem stC {N P : Int} (h : 1 ≤ N) (h2 : N ≤ 32) (k : Nat) : addC (stTab N P k) (stA N P k) = if stB N P k k = true then 107 else 0 := by
  unfold addC
  rw [if_pos (stA_ok h h2 k)]
  by_cases hb : stB N P k k = true
  · rw [if_pos hb]
    exact if_pos ((stTab_there h h2 k k).2 hb)
  · rw [if_neg hb]
    exact if_neg (fun q => hb ((stTab_there h h2 k k).1 q))
/-- some are there. -/
theorem stTab_some {N P : Int} (h : 1 ≤ N) (h2 : N ≤ 32) {k : Nat} (hk : 0 < k) : 0 < (allA (stTab N P k)).length := by
  have hb := stF_bd (P := P) h 0
  have ht : there (stTab N P k) (stF N P 0 + 1) := (stTab_there h h2 k 0).2 (stB_iff.2 ⟨0, hk, rfl⟩)
  exact List.length_pos_of_mem ((stTab_tab N P k).of_there (by omega) (by omega) ht).2
/-- they stand by their numbers. -/
theorem Tab.sorted {t : List As} (h : Tab t) {j k : Nat} (hj : j < k) (hk : k < (allA t).length) : ((allA t).getD j asZ).i < ((allA t).getD k asZ).i := by
  have hp : t.Pairwise (fun a b => a.i ≠ 0 → b.i ≠ 0 → a.i < b.i) := by
    rw [List.pairwise_iff_getElem]
    intro x y hx hy hxy h1 h2
    have hl := h.len
    have q := h.at_ x (by omega)
    have r := h.at_ y (by omega)
    rw [List.getD_eq_getElem?_getD, List.getElem?_eq_getElem hx] at q
    rw [List.getD_eq_getElem?_getD, List.getElem?_eq_getElem hy] at r
    simp only [Option.getD_some] at q r
    rcases q with q | ⟨q, _⟩
    · rw [q] at h1; exact absurd rfl h1
    · rcases r with r | ⟨r, _⟩
      · rw [r] at h2; exact absurd rfl h2
      · omega
  have hp2 := List.Pairwise.filter (fun a : As => a.i != 0) hp
  rw [List.pairwise_iff_getElem] at hp2
  have hj2 : j < (allA t).length := by omega
  have := hp2 j k hj2 hk hj
  have m1 : ((allA t)[j].i != 0) = true := (List.mem_filter.1 (List.getElem_mem hj2)).2
  have m2 : ((allA t)[k].i != 0) = true := (List.mem_filter.1 (List.getElem_mem hk)).2
  rw [List.getD_eq_getElem?_getD, List.getD_eq_getElem?_getD, List.getElem?_eq_getElem hj2, List.getElem?_eq_getElem hk]
  exact this (bne_iff_ne.1 m1) (bne_iff_ne.1 m2)
/-- of three issuers alone. -/
theorem stTab_three (N P : Int) : ∀ k a, a ∈ stTab N P k → a.s = 0 ∨ a.s = 1 ∨ a.s = 2
  | 0, a, h => by
    have : a = asZ := List.eq_of_mem_replicate h
    rw [this]; exact .inl rfl
  | k + 1, a, h => by
    have h' : a ∈ nextT (stTab N P k) (stA N P k) := h
    unfold nextT at h'
    split at h'
    · rcases List.mem_or_eq_of_mem_set h' with q | q
      · exact stTab_three N P k a q
      · rw [q]; simp only [stA]; omega
    · exact stTab_three N P k a h'
theorem three_sum : ∀ (l : List As), (∀ a ∈ l, a.s = 0 ∨ a.s = 1 ∨ a.s = 2) → (ofA l 0).length + (ofA l 1).length + (ofA l 2).length = l.length
  | [], _ => rfl
  | a :: l, h => by
    have ih := three_sum l (fun b hb => h b (List.mem_cons_of_mem _ hb))
    unfold ofA at ih ⊢
    simp only [List.length_map, List.length_cons] at ih ⊢
    rcases h a List.mem_cons_self with q | q | q
    · rw [List.filter_cons_of_pos (by simp [q]), List.filter_cons_of_neg (by simp [q]), List.filter_cons_of_neg (by simp [q])]
      simp only [List.length_cons]; omega
    · rw [List.filter_cons_of_neg (by simp [q]), List.filter_cons_of_pos (by simp [q]), List.filter_cons_of_neg (by simp [q])]
      simp only [List.length_cons]; omega
    · rw [List.filter_cons_of_neg (by simp [q]), List.filter_cons_of_neg (by simp [q]), List.filter_cons_of_pos (by simp [q])]
      simp only [List.length_cons]; omega
theorem stTab_sum (N P : Int) (k : Nat) : (ofA (allA (stTab N P k)) 0).length + (ofA (allA (stTab N P k)) 1).length + (ofA (allA (stTab N P k)) 2).length = (allA (stTab N P k)).length :=
  three_sum _ fun a ha => stTab_three N P k a (List.mem_filter.1 ha).1
end Go.Proofs.YtbjiiddlpfjipaaDoor
