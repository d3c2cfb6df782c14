/-
  What a choice that is checked is (pure).
-/
import Derived.Test.YtmihpgccdknhfaaDoorAllocC
import Derived.Test.YtmihpgccdknhfaaDoorBoundLaw
namespace Go.Proofs.YtmihpgccdknhfaaDoor
open Go Go.RowKit
set_option linter.unusedVariables false

section
variable {L : List Lt} {C : List Int} {n : Int} {T : List Int}
theorem sumF_both (f g : Nat → Int) : ∀ k, sumF (fun i => f i + g i) k = sumF f k + sumF g k
  | 0 => rfl
  | k + 1 => by
    have := sumF_both f g k
    show sumF (fun i => f i + g i) k + (f k + g k) = (sumF f k + f k) + (sumF g k + g k)
    omega
theorem gs_groups (h : OkP L C n) (T : List Int) : ∀ k, k ≤ L.length → sumF (fun j => gs L T (j : Int) k) C.length = sumF (fun i => T.getD i 0 * (L.getD i ltZ).v) k
  | 0, _ => sumF_zero fun _ _ => rfl
  | k + 1, hk => by
    have ih := gs_groups h T k (by omega)
    have hg := (h.lot (show k < L.length by omega)).2.2.2
    show sumF (fun j => gs L T (j : Int) k + gsF L T (j : Int) k) C.length = sumF (fun i => T.getD i 0 * (L.getD i ltZ).v) k + T.getD k 0 * (L.getD k ltZ).v
    rw [sumF_both, ih]
    have h1 := sumF_one (f := fun _ => (0 : Int)) (g := fun j : Nat => gsF L T (j : Int) k) (i := (L.getD k ltZ).g.toNat) (k := C.length) (by omega) (fun j hj hn => by show (0 : Int) = gsF L T (j : Int) k; unfold gsF; rw [if_neg (by omega)])
    have h2 : sumF (fun _ : Nat => (0 : Int)) C.length = 0 := sumF_zero fun _ _ => rfl
    have h3 : gsF L T (((L.getD k ltZ).g.toNat : Nat) : Int) k = T.getD k 0 * (L.getD k ltZ).v := by unfold gsF; rw [if_pos (by omega)]
    rw [h2, h3] at h1
    omega
theorem wo_units (h : OkP L C n) (T : List Int) : wo L C T ≤ sumF (fun i => T.getD i 0 * (L.getD i ltZ).v) L.length := by
  rw [← gs_groups h T L.length (Nat.le_refl _)]
  refine sumF_le fun j hj => ?_
  show capd _ _ ≤ _
  unfold capd
  split <;> omega
theorem sumB_whole (f : Nat → Int) (k : Nat) : sumB f 0 k = sumF f k := sumF_same fun i _ => if_pos (Nat.zero_le i)
/-- a take that is enough costs no less than what is sure. -/
theorem tk_least (h : OkP L C n) (ht : TkOk L T) (hf : n ≤ wo L C T) : lsB L 0 n = true ∧ 0 ≤ lsV L 0 n ∧ lsV L 0 n ≤ co L T ∧ co L T ≤ 8000000000000 := by
  have hc := coS_bd h ht (Nat.le_refl L.length)
  have hco : co L T = sumF (coF L T) L.length := rfl
  by_cases hz : n ≤ 0
  · obtain ⟨q1, q2⟩ := ls_zero (L := L) 0 hz
    exact ⟨q1, by rw [q2]; exact Int.le_refl _, by rw [q2, hco]; exact hc.1, by rw [hco]; exact hc.2⟩
  · have ht2 : ∀ i, 0 ≤ i → i < L.length → 0 ≤ T.getD i 0 ∧ T.getD i 0 ≤ (L.getD i ltZ).u := fun i _ hi => ht.2 i hi
    have hs := wo_units h T
    have hv : sumB (fun i => T.getD i 0 * (L.getD i ltZ).v) 0 L.length = sumF (fun i => T.getD i 0 * (L.getD i ltZ).v) L.length := sumB_whole _ _
    obtain ⟨r, hr⟩ := bound_rate h (t := fun i => T.getD i 0) ht2 (by show 0 < sumB (fun i => T.getD i 0 * (L.getD i ltZ).v) 0 L.length; omega)
    have hb := bound_holds h hr (t := fun i => T.getD i 0) ht2
    have hcs : sumB (fun i => T.getD i 0 * (L.getD i ltZ).c) 0 L.length = co L T := sumB_whole _ _
    try simp only at hb
    rw [hcs, hv] at hb
    have hrc := (h.lot ((rateIs_of L 0).2 r hr).2.1).2.2.1.1
    have hle : n * (L.getD r ltZ).c ≤ sumF (fun i => T.getD i 0 * (L.getD i ltZ).v) L.length * (L.getD r ltZ).c := Int.mul_le_mul_of_nonneg_right (by omega) hrc
    obtain ⟨q1, _, q3, q4⟩ := ls_some h (Nat.zero_le _) hr (left := n) (K := co L T) (by omega) (Int.le_trans hle hb) (by rw [hco]; omega)
    exact ⟨q1, q3, q4, by rw [hco]; exact hc.2⟩

/-- the number of Check's error. -/
def ckC (L : List Lt) (C : List Int) (n : Int) (T : List Int) (wt c : Int) : Int :=
  if OkP L C n then (if TkOk L T ∧ wo L C T = wt ∧ co L T = c then (if n ≤ wo L C T then 0 else 115) else 102) else pbC L C n
/-- in the order of its tests. -/
theorem ck_ways (L : List Lt) (C : List Int) (n : Int) (T : List Int) (wt c : Int) :
    (¬ OkP L C n ∧ ckC L C n T wt c = pbC L C n) ∨
    (OkP L C n ∧ ¬ TkOk L T ∧ goodB L C n T = false ∧ ckC L C n T wt c = 102) ∨
    (OkP L C n ∧ TkOk L T ∧ goodB L C n T = true ∧ woV L C n T ≠ wt ∧ ckC L C n T wt c = 102) ∨
    (OkP L C n ∧ TkOk L T ∧ goodB L C n T = true ∧ woV L C n T = wt ∧ coV L C n T ≠ c ∧ ckC L C n T wt c = 102) ∨
    (OkP L C n ∧ TkOk L T ∧ goodB L C n T = true ∧ woV L C n T = wt ∧ coV L C n T = c ∧ fiB L C n T = false ∧ wt < n ∧ ckC L C n T wt c = 115) ∨
    (OkP L C n ∧ TkOk L T ∧ goodB L C n T = true ∧ woV L C n T = wt ∧ coV L C n T = c ∧ fiB L C n T = true ∧ n ≤ wt ∧ ckC L C n T wt c = 0) := by
  unfold ckC
  by_cases hok : OkP L C n
  · rw [if_pos hok]
    by_cases ht : TkOk L T
    · have hg := goodB_yes hok ht
      have e1 : woV L C n T = wo L C T := by unfold woV; rw [hg, if_pos rfl]
      have e2 : coV L C n T = co L T := by unfold coV; rw [hg, if_pos rfl]
      rw [e1, e2]
      by_cases h1 : wo L C T = wt
      · by_cases h2 : co L T = c
        · rw [if_pos ⟨ht, h1, h2⟩]
          by_cases h3 : n ≤ wo L C T
          · rw [if_pos h3]
            exact .inr (.inr (.inr (.inr (.inr ⟨hok, ht, hg, h1, h2, by unfold fiB; rw [hg, e1, decide_eq_true h3]; rfl, by omega, rfl⟩))))
          · rw [if_neg h3]
            exact .inr (.inr (.inr (.inr (.inl ⟨hok, ht, hg, h1, h2, by unfold fiB; rw [hg, e1, decide_eq_false h3]; rfl, by omega, rfl⟩))))
        · rw [if_neg (fun q => h2 q.2.2)]
          exact .inr (.inr (.inr (.inl ⟨hok, ht, hg, h1, h2, rfl⟩)))
      · rw [if_neg (fun q => h1 q.2.1)]
        exact .inr (.inr (.inl ⟨hok, ht, hg, h1, rfl⟩))
    · rw [if_neg (fun q => ht q.1)]
      exact .inr (.inl ⟨hok, ht, goodB_no fun q => ht q.2, rfl⟩)
  · rw [if_neg hok]
    exact .inl ⟨hok, rfl⟩
theorem ck_fine {wt c : Int} : ckC L C n T wt c = 0 ↔ OkP L C n ∧ TkOk L T ∧ wo L C T = wt ∧ co L T = c ∧ n ≤ wt := by
  unfold ckC
  constructor
  · intro h
    by_cases hok : OkP L C n
    · rw [if_pos hok] at h
      split at h
      · rename_i q
        split at h
        · exact ⟨hok, q.1, q.2.1, q.2.2, by have := q.2.1; omega⟩
        · omega
      · omega
    · rw [if_neg hok] at h
      exact absurd (pbC_iff.1 h) hok
  · rintro ⟨h1, h2, h3, h4, h5⟩
    rw [if_pos h1, if_pos ⟨h2, h3, h4⟩, if_pos (by omega)]
theorem ck_code (L : List Lt) (C : List Int) (n : Int) (T : List Int) (wt c : Int) : ckC L C n T wt c = 0 ∨ ckC L C n T wt c = 102 ∨ ckC L C n T wt c = 103 ∨ ckC L C n T wt c = 105 ∨ ckC L C n T wt c = 115 := by
  rcases ck_ways L C n T wt c with ⟨_, q⟩ | ⟨_, _, _, q⟩ | ⟨_, _, _, _, q⟩ | ⟨_, _, _, _, _, q⟩ | ⟨_, _, _, _, _, _, _, q⟩ | ⟨_, _, _, _, _, _, _, q⟩
  · rcases pbC_ways L C n with h | h | h <;> rw [q, h] <;> simp
  all_goals rw [q]; simp
/-- how far from what is sure. -/
def gpV (L : List Lt) (C : List Int) (n : Int) (T : List Int) (wt c : Int) : Int := if ckC L C n T wt c = 0 then c - lsV L 0 n else 0
theorem gp_fine {wt c : Int} (h : ckC L C n T wt c = 0) : gpV L C n T wt c = c - lsV L 0 n ∧ lsB L 0 n = true ∧ 0 ≤ lsV L 0 n ∧ lsV L 0 n ≤ c ∧ c ≤ 8000000000000 := by
  obtain ⟨h1, h2, h3, h4, h5⟩ := ck_fine.1 h
  have := tk_least h1 h2 (by omega)
  rw [h4] at this
  exact ⟨if_pos h, this⟩
theorem gp_wrong {wt c : Int} (h : ckC L C n T wt c ≠ 0) : gpV L C n T wt c = 0 := if_neg h

/-- the first lot of which one less is enough. -/
def SwIs (L : List Lt) (C : List Int) (n : Int) (T : List Int) : Option Nat → Prop
  | none => fiB L C n T = false ∨ ∀ j, j < T.length → fiB L C n (less T j) = false
  | some i => fiB L C n T = true ∧ i < T.length ∧ fiB L C n (less T i) = true ∧ ∀ j, j < i → fiB L C n (less T j) = false
theorem sw_same {o q : Option Nat} (h : SwIs L C n T o) (g : SwIs L C n T q) : o = q := by
  cases o with
  | none =>
    cases q with
    | none => rfl
    | some k =>
      obtain ⟨g1, g2, g3, g4⟩ := g
      rcases h with h | h
      · rw [h] at g1; cases g1
      · rw [h k g2] at g3; cases g3
  | some i =>
    obtain ⟨h1, h2, h3, h4⟩ := h
    cases q with
    | none =>
      rcases g with g | g
      · rw [g] at h1; cases h1
      · rw [g i h2] at h3; cases h3
    | some k =>
      obtain ⟨g1, g2, g3, g4⟩ := g
      rcases Nat.lt_trichotomy i k with q | q | q
      · rw [g4 i q] at h3; cases h3
      · rw [q]
      · rw [h4 k q] at g3; cases g3
def swL (T : List Int) : Option Nat → List Int
  | none => []
  | some i => less T i
theorem fi_good (h : fiB L C n T = true) : OkP L C n ∧ TkOk L T ∧ n ≤ wo L C T := by
  unfold fiB at h
  rw [Bool.and_eq_true, decide_eq_true_iff] at h
  obtain ⟨h1, h2⟩ := h
  obtain ⟨g1, g2⟩ := goodB_iff.1 h1
  unfold woV at h2
  rw [h1, if_pos rfl] at h2
  exact ⟨g1, g2, h2⟩
theorem fi_yes (h : OkP L C n) (ht : TkOk L T) (hw : n ≤ wo L C T) : fiB L C n T = true := by
  unfold fiB woV
  rw [goodB_yes h ht, if_pos rfl, decide_eq_true hw]
  rfl
theorem less_back (T : List Int) (i : Nat) (hi : i < T.length) : (less T i).set i (T.getD i 0) = T := set_back T i _ hi
theorem less_cost (h : OkP L C n) {i : Nat} (hi : i < L.length) (hl : T.length = L.length) : co L (less T i) = co L T - (L.getD i ltZ).c ∧ 0 ≤ (L.getD i ltZ).c := by
  have e : plus (less T i) i = T := by
    unfold plus
    rw [less_at (by omega), if_pos rfl, show T.getD i 0 - 1 + 1 = T.getD i 0 by omega]
    exact less_back T i (by omega)
  have := co_up (L := L) (t := less T i) (by rw [less_len]; exact hl) hi
  rw [e] at this
  have h2 := (h.lot hi).2.2.1.1
  omega
end
end Go.Proofs.YtmihpgccdknhfaaDoor
