/-
  Shares: each one's part cut down, what is left to the greatest rests; what they sum to; twice the weights, one, alike ones. Pure.
-/
import Derived.Test.YtddoibnagbbndaaDoorShareSort
namespace Go.Proofs.YtddoibnagbbndaaDoor
open Go
set_option linter.unusedVariables false

def am23 (q : Int) : Prop := 0 ≤ q ∧ q ≤ 1000000000000000
instance (q : Int) : Decidable (am23 q) := by unfold am23; infer_instance
def suF (f : Nat → Int) : Nat → Int
  | 0 => 0
  | k + 1 => suF f k + f k
theorem suF_same {f g : Nat → Int} : ∀ {k : Nat}, (∀ i, i < k → f i = g i) → suF f k = suF g k
  | 0, _ => rfl
  | k + 1, h => by unfold suF; rw [suF_same fun i hi => h i (by omega), h k (by omega)]
theorem suF_add (f g : Nat → Int) : ∀ k, suF (fun i => f i + g i) k = suF f k + suF g k
  | 0 => rfl
  | k + 1 => by unfold suF; rw [suF_add f g k]; omega
theorem suF_mul (c : Int) (f : Nat → Int) : ∀ k, suF (fun i => c * f i) k = c * suF f k
  | 0 => by simp [suF]
  | k + 1 => by unfold suF; rw [suF_mul c f k, Int.mul_add]
theorem suF_pos {f : Nat → Int} : ∀ {k : Nat}, (∀ i, i < k → 0 ≤ f i) → 0 ≤ suF f k
  | 0, _ => Int.le_refl _
  | k + 1, h => by
    have := suF_pos (f := f) (k := k) fun i hi => h i (by omega)
    have := h k (by omega)
    unfold suF; omega
theorem suF_mono {f : Nat → Int} : ∀ {k : Nat}, (∀ i, i < k → 0 ≤ f i) → ∀ j, j < k → f j ≤ suF f k
  | 0, _, j, hj => by omega
  | k + 1, h, j, hj => by
    have h1 := suF_pos (f := f) (k := k) fun i hi => h i (by omega)
    have h2 := h k (by omega)
    unfold suF
    by_cases e : j = k
    · subst e; omega
    · have := suF_mono (f := f) (k := k) (fun i hi => h i (by omega)) j (by omega)
      omega
theorem suF_upto {f : Nat → Int} : ∀ {k : Nat}, (∀ i, i < k → 0 ≤ f i) → ∀ j, j ≤ k → suF f j ≤ suF f k
  | 0, _, j, hj => by obtain rfl : j = 0 := by omega
                      exact Int.le_refl _
  | k + 1, h, j, hj => by
    have h2 := h k (by omega)
    by_cases e : j = k + 1
    · subst e; exact Int.le_refl _
    · have := suF_upto (f := f) (k := k) (fun i hi => h i (by omega)) j (by omega)
      show suF f j ≤ suF f k + f k
      omega
theorem suF_lt {f : Nat → Int} {c : Int} : ∀ {k : Nat}, (∀ i, i < k → f i < c) → suF f k ≤ c * k - k
  | 0, _ => by simp [suF]
  | k + 1, h => by
    have h1 := suF_lt (f := f) (c := c) (k := k) fun i hi => h i (by omega)
    have h2 := h k (by omega)
    unfold suF
    rw [show c * ((k + 1 : Nat) : Int) = c * (k : Int) + c from by rw [Int.natCast_succ, Int.mul_add, Int.mul_one]]
    omega
theorem suF_const (c : Int) : ∀ k : Nat, suF (fun _ => c) k = c * k
  | 0 => by simp [suF]
  | k + 1 => by unfold suF; rw [suF_const c k, Int.natCast_succ, Int.mul_add, Int.mul_one]
theorem suF_count (p : Nat → Bool) : ∀ k, suF (fun i => if p i = true then 1 else 0) k = (((List.range k).filter p).length : Int)
  | 0 => rfl
  | k + 1 => by
    unfold suF
    rw [suF_count p k, List.range_succ, List.filter_append, List.length_append]
    by_cases h : p k = true
    · simp [h]
    · simp [h]

/-! The parts. -/
def wF (L : List Int) (i : Nat) : Int := L.getD i 0
def smW (L : List Int) : Int := suF (wF L) L.length
def flF (W : Int) (L : List Int) (i : Nat) : Int := W * wF L i / smW L
def reF (W : Int) (L : List Int) (i : Nat) : Int := W * wF L i % smW L
def lfW (W : Int) (L : List Int) : Int := W - suF (flF W L) L.length
def rkW (W : Int) (L : List Int) (i : Nat) : Nat := rk (reF W L) L.length i
/-- t of them have one more. -/
def ptF (W : Int) (L : List Int) (t : Nat) (i : Nat) : Int := flF W L i + if rkW W L i < t then 1 else 0
def ptL (W : Int) (L : List Int) (t : Nat) : List Int := (List.range L.length).map (ptF W L t)
def shL (W : Int) (L : List Int) : List Int := ptL W L (lfW W L).toNat
def allW (L : List Int) : Bool := L.all fun x => decide (am23 x)
def shC (W : Int) (L : List Int) : Int := if 32 < L.length then 105 else if ¬ am23 W ∨ allW L = false then 103 else if 1000000000000000 < smW L then 104 else if smW L = 0 ∧ W ≠ 0 then 106 else 0
theorem ptL_len (W : Int) (L : List Int) (t : Nat) : (ptL W L t).length = L.length := by simp [ptL]
theorem ptL_at (W : Int) (L : List Int) (t : Nat) {i : Nat} (h : i < L.length) : (ptL W L t).getD i 0 = ptF W L t i := by
  unfold ptL
  rw [List.getD_eq_getElem?_getD, List.getElem?_map, List.getElem?_range h]; rfl
theorem allW_iff {L : List Int} : allW L = true ↔ ∀ i, i < L.length → am23 (wF L i) := by
  unfold allW wF
  rw [List.all_eq_true]
  constructor
  · intro h i hi
    rw [List.getD_eq_getElem?_getD, List.getElem?_eq_getElem hi]
    exact of_decide_eq_true (h _ (List.getElem_mem hi))
  · intro h x hx
    obtain ⟨i, hi, rfl⟩ := List.getElem_of_mem hx
    have := h i hi
    rw [List.getD_eq_getElem?_getD, List.getElem?_eq_getElem hi] at this
    exact decide_eq_true this
structure ShOk (W : Int) (L : List Int) : Prop where
  len : L.length ≤ 32
  w : am23 W
  all : ∀ i, i < L.length → am23 (wF L i)
  sum : smW L ≤ 1000000000000000
  fit : smW L = 0 → W = 0
theorem shC_fine {W : Int} {L : List Int} : shC W L = 0 ↔ ShOk W L := by
  unfold shC
  by_cases h1 : 32 < L.length
  · rw [if_pos h1]
    exact ⟨fun h => by simp at h, fun h => by have := h.len; omega⟩
  · rw [if_neg h1]
    by_cases h2 : ¬ am23 W ∨ allW L = false
    · rw [if_pos h2]
      refine ⟨fun h => by simp at h, fun h => ?_⟩
      rcases h2 with h2 | h2
      · exact absurd h.w h2
      · rw [allW_iff.2 h.all] at h2; simp at h2
    · rw [if_neg h2]
      have h3 : am23 W := by
        by_cases q : am23 W
        · exact q
        · exact absurd (.inl q) h2
      have h4 : allW L = true := by
        cases q : allW L
        · exact absurd (.inr q) h2
        · rfl
      by_cases h5 : 1000000000000000 < smW L
      · rw [if_pos h5]
        exact ⟨fun h => by simp at h, fun h => by have := h.sum; omega⟩
      · rw [if_neg h5]
        by_cases h6 : smW L = 0 ∧ W ≠ 0
        · rw [if_pos h6]
          exact ⟨fun h => by simp at h, fun h => absurd (h.fit h6.1) h6.2⟩
        · rw [if_neg h6]
          refine ⟨fun _ => ⟨by omega, h3, allW_iff.1 h4, by omega, fun q => ?_⟩, fun _ => rfl⟩
          by_cases q2 : W = 0
          · exact q2
          · exact absurd ⟨q, q2⟩ h6
section
variable {W : Int} {L : List Int}
theorem ShOk.pos (h : ShOk W L) : 0 ≤ smW L := suF_pos fun i hi => (h.all i hi).1
theorem ShOk.le (h : ShOk W L) {i : Nat} (hi : i < L.length) : wF L i ≤ smW L := suF_mono (fun i hi => (h.all i hi).1) i hi
/-- the part cut down: no more than the whole; and its rest. -/
theorem fl_fits {W x S : Int} (hW : 0 ≤ W) (hx : 0 ≤ x) (hxS : x ≤ S) (hS : 0 < S) : 0 ≤ W * x / S ∧ W * x / S ≤ W ∧ 0 ≤ W * x % S ∧ W * x % S < S ∧ W * x = W * x / S * S + W * x % S := by
  have h0 : 0 ≤ W * x := Int.mul_nonneg hW hx
  refine ⟨Int.ediv_nonneg h0 (Int.le_of_lt hS), ?_, Int.emod_nonneg _ (by omega), Int.emod_lt_of_pos _ hS, ?_⟩
  · have h1 : W * x ≤ W * S := Int.mul_le_mul_of_nonneg_left hxS hW
    have h2 := Int.ediv_le_ediv hS h1
    rwa [Int.mul_ediv_cancel _ (by omega)] at h2
  · have := Int.mul_ediv_add_emod (W * x) S
    rw [Int.mul_comm (W * x / S) S]; omega
theorem ShOk.fl (h : ShOk W L) (hS : 0 < smW L) {i : Nat} (hi : i < L.length) : 0 ≤ flF W L i ∧ flF W L i ≤ W ∧ 0 ≤ reF W L i ∧ reF W L i < smW L ∧ W * wF L i = flF W L i * smW L + reF W L i :=
  fl_fits h.w.1 (h.all i hi).1 (h.le hi) hS
theorem ShOk.left (h : ShOk W L) (hS : 0 < smW L) : lfW W L * smW L = suF (reF W L) L.length := by
  have e1 : suF (fun i => W * wF L i) L.length = suF (fun i => smW L * flF W L i + reF W L i) L.length := suF_same fun i hi => by rw [(h.fl hS hi).2.2.2.2, Int.mul_comm]
  rw [suF_mul, suF_add, suF_mul] at e1
  unfold lfW
  rw [Int.sub_mul, Int.mul_comm (suF (flF W L) L.length)]
  unfold smW at *
  omega
theorem ShOk.some (h : ShOk W L) (hS : 0 < smW L) : 0 < L.length := by
  rcases Nat.eq_zero_or_pos L.length with q | q
  · unfold smW at hS; rw [q] at hS; simp [suF] at hS
  · exact q
theorem ShOk.left_bd (h : ShOk W L) (hS : 0 < smW L) : 0 ≤ lfW W L ∧ lfW W L < L.length := by
  have h1 := h.left hS
  have h2 : 0 ≤ suF (reF W L) L.length := suF_pos fun i hi => (h.fl hS hi).2.2.1
  have h3 : suF (reF W L) L.length ≤ smW L * L.length - L.length := suF_lt fun i hi => (h.fl hS hi).2.2.2.1
  have h4 := h.some hS
  constructor
  · rcases Int.lt_or_le (lfW W L) 0 with q | q
    · have : lfW W L * smW L < 0 := Int.mul_neg_of_neg_of_pos q hS
      omega
    · exact q
  · rcases Int.lt_or_le (lfW W L) L.length with q | q
    · exact q
    · have : (L.length : Int) * smW L ≤ lfW W L * smW L := Int.mul_le_mul_of_nonneg_right q (Int.le_of_lt hS)
      rw [Int.mul_comm] at this
      omega
/-- where the weights are nothing, or the whole is, so are the shares. -/
theorem sh_zero (hS : smW L = 0) (hW : W = 0) : shL W L = List.replicate L.length 0 := by
  have e1 : ∀ i, flF W L i = 0 := fun i => by unfold flF; rw [hS, Int.ediv_zero]
  have e2 : lfW W L = 0 := by unfold lfW; rw [suF_same (g := fun _ => 0) fun i _ => e1 i, suF_const, hW]; simp
  unfold shL ptL
  rw [e2]
  refine List.ext_getElem (by simp) fun k h1 h2 => ?_
  simp [ptF, e1]
theorem pt_none : ptL W L 0 = (List.range L.length).map (flF W L) := by
  unfold ptL
  exact List.map_congr_left fun x _ => by simp [ptF]
theorem ptL_get {t k : Nat} (h : k < (ptL W L t).length) : (ptL W L t)[k] = ptF W L t k := by simp [ptL]
/-- one more has one more: the one of rank t. -/
theorem pt_next {t p : Nat} (hp : p < L.length) (hr : rkW W L p = t) : (ptL W L t).set p (ptF W L t p + 1) = ptL W L (t + 1) := by
  refine List.ext_getElem (by simp [ptL]) fun k h1 h2 => ?_
  simp only [List.length_set, ptL_len] at h1
  rw [List.getElem_set, ptL_get, ptL_get]
  by_cases e : p = k
  · subst e
    rw [if_pos rfl]
    unfold ptF
    rw [if_neg (by omega), if_pos (by omega)]
    omega
  · rw [if_neg e]
    have hne : rkW W L k ≠ t := fun q => e (rk_inj (R := reF W L) hp h1 (hr.trans q.symm))
    unfold ptF
    by_cases q : rkW W L k < t
    · rw [if_pos q, if_pos (by omega)]
    · rw [if_neg q, if_neg (by omega)]
end

/-! Ranks again. -/
section
variable {R : Nat → Int} {n : Nat}
theorem rk_count {l : Nat} (hl : l ≤ n) : suF (fun i => if decide (rk R n i < l) = true then 1 else 0) n = (l : Int) := by
  have inj : ∀ (p : Nat → Bool), (((List.range n).filter p).map (rk R n)).Nodup := fun p => by
    refine List.pairwise_map.2 ((List.Pairwise.filter p (List.nodup_range (n := n))).imp_of_mem fun {a b} ha hb hab e => ?_)
    exact hab (rk_inj (List.mem_range.1 (List.mem_filter.1 ha).1) (List.mem_range.1 (List.mem_filter.1 hb).1) e)
  have h1 := List.Nodup.length_le_of_subset (inj fun i => decide (rk R n i < l)) (l₂ := List.range l) fun x hx => by
    obtain ⟨i, hi, rfl⟩ := List.mem_map.1 hx
    exact List.mem_range.2 (of_decide_eq_true (List.mem_filter.1 hi).2)
  have h2 := List.Nodup.length_le_of_subset (inj fun i => !decide (rk R n i < l)) (l₂ := (List.range (n - l)).map (fun k => l + k)) fun x hx => by
    obtain ⟨i, hi, rfl⟩ := List.mem_map.1 hx
    have q := (List.mem_filter.1 hi).2
    have q1 := rk_n (R := R) (List.mem_range.1 (List.mem_filter.1 hi).1)
    have q2 : ¬ rk R n i < l := by simpa using q
    exact List.mem_map.2 ⟨rk R n i - l, List.mem_range.2 (by omega), by omega⟩
  rw [List.length_map, List.length_range] at h1
  rw [List.length_map, List.length_map, List.length_range] at h2
  have h3 := suF_count (fun i => decide (rk R n i < l)) n
  have h4 := suF_count (fun i => !decide (rk R n i < l)) n
  have h5 : suF (fun i => (if decide (rk R n i < l) = true then 1 else 0) + (if (!decide (rk R n i < l)) = true then 1 else 0)) n = n := by
    rw [suF_same (g := fun _ => 1) fun i _ => by cases decide (rk R n i < l) <;> rfl, suF_const]; simp
  rw [suF_add, h3, h4] at h5
  rw [h3]
  omega
theorem rk_some {k : Nat} (hk : k < n) : ∃ x, x < n ∧ rk R n x = k := by
  by_cases h : k ∈ (List.range n).map (rk R n)
  · obtain ⟨x, hx, e⟩ := List.mem_map.1 h
    exact ⟨x, List.mem_range.1 hx, e⟩
  · have hn : ((List.range n).map (rk R n) ++ [k]).Nodup := List.nodup_append.2 ⟨List.pairwise_map.2 ((List.nodup_range (n := n)).imp_of_mem fun {a b} ha hb hab e => hab (rk_inj (List.mem_range.1 ha) (List.mem_range.1 hb) e)), List.pairwise_singleton _ _, fun x hx y hy => by
      rw [List.mem_singleton] at hy
      rintro rfl
      subst hy
      exact h hx⟩
    have := List.Nodup.length_le_of_subset hn (l₂ := List.range n) fun z hz => by
      rcases List.mem_append.1 hz with hz | hz
      · obtain ⟨x, hx, rfl⟩ := List.mem_map.1 hz
        exact List.mem_range.2 (rk_n (List.mem_range.1 hx))
      · rw [List.mem_singleton] at hz; subst hz; exact List.mem_range.2 hk
    rw [List.length_append, List.length_map, List.length_range, List.length_singleton] at this
    omega
theorem rk_same {R' : Nat → Int} (h : ∀ i j, i < n → j < n → (LtR R i j ↔ LtR R' i j)) {i : Nat} (hi : i < n) : rk R n i = rk R' n i := by
  unfold rk
  congr 1
  refine List.filter_congr fun j hj => ?_
  rw [Bool.eq_iff_iff, ltR_iff, ltR_iff]
  exact h j i (List.mem_range.1 hj) hi
theorem rk_even (h : ∀ i j, i < n → j < n → R i = R j) {i : Nat} (hi : i < n) : rk R n i = i :=
  rk_at (f := id) (fun x q => q) (fun x y _ q r => .inr ⟨h x y (by omega) r, q⟩) hi
end
/-- the one found among the first j that have none yet: of those of rank k or more, the least. -/
def PickIs (R : Nat → Int) (n k j : Nat) (at' : Int) : Prop := (at' = -1 ∧ ∀ i, i < j → rk R n i < k) ∨ ∃ a : Nat, a < j ∧ at' = (a : Int) ∧ k ≤ rk R n a ∧ ∀ i, i < j → k ≤ rk R n i → i = a ∨ LtR R a i
section
variable {R : Nat → Int} {n k j : Nat} {at' : Int}
theorem pick_first : PickIs R n k 0 (-1) := .inl ⟨rfl, fun i h => by omega⟩
theorem PickIs.skip (h : PickIs R n k j at') (hj : rk R n j < k) : PickIs R n k (j + 1) at' := by
  rcases h with ⟨h1, h2⟩ | ⟨a, h1, h2, h3, h4⟩
  · refine .inl ⟨h1, fun i hi => ?_⟩
    by_cases e : i = j
    · rw [e]; exact hj
    · exact h2 i (by omega)
  · refine .inr ⟨a, by omega, h2, h3, fun i hi q => ?_⟩
    by_cases e : i = j
    · subst e; omega
    · exact h4 i (by omega) q
theorem PickIs.take (h : PickIs R n k j (-1)) (hj : k ≤ rk R n j) : PickIs R n k (j + 1) j := by
  rcases h with ⟨h1, h2⟩ | ⟨a, h1, h2, h3, h4⟩
  · refine .inr ⟨j, by omega, rfl, hj, fun i hi q => ?_⟩
    by_cases e : i = j
    · exact .inl e
    · have := h2 i (by omega); omega
  · omega
theorem PickIs.turn {a : Nat} (h : PickIs R n k j a) (hj : k ≤ rk R n j) (hl : R a < R j) : PickIs R n k (j + 1) j := by
  rcases h with ⟨h1, h2⟩ | ⟨b, h1, h2, h3, h4⟩
  · omega
  · obtain rfl : a = b := by omega
    refine .inr ⟨j, by omega, rfl, hj, fun i hi q => ?_⟩
    by_cases e : i = j
    · exact .inl e
    · rcases h4 i (by omega) q with q2 | q2
      · rw [q2]; exact .inr (.inl hl)
      · exact .inr (LtR.trans (.inl hl) q2)
theorem PickIs.keep {a : Nat} (h : PickIs R n k j a) (hl : ¬ R a < R j) : PickIs R n k (j + 1) a := by
  rcases h with ⟨h1, h2⟩ | ⟨b, h1, h2, h3, h4⟩
  · omega
  · obtain rfl : a = b := by omega
    refine .inr ⟨a, by omega, rfl, h3, fun i hi q => ?_⟩
    by_cases e : i = j
    · subst e; exact .inr (by unfold LtR; omega)
    · exact h4 i (by omega) q
theorem PickIs.lt (h : PickIs R n k j at') : at' < j := by
  rcases h with ⟨h1, h2⟩ | ⟨b, h1, h2, h3, h4⟩ <;> omega
theorem PickIs.end (h : PickIs R n k n at') (hk : k < n) : ∃ a : Nat, a < n ∧ at' = (a : Int) ∧ rk R n a = k := by
  obtain ⟨x, hx, e⟩ := rk_some (R := R) hk
  rcases h with ⟨h1, h2⟩ | ⟨a, h1, h2, h3, h4⟩
  · have := h2 x hx; omega
  · refine ⟨a, h1, h2, ?_⟩
    rcases h4 x hx (by omega) with q | q
    · rw [← q]; exact e
    · have := rk_lt (R := R) h1 q; omega
end
end Go.Proofs.YtddoibnagbbndaaDoor
