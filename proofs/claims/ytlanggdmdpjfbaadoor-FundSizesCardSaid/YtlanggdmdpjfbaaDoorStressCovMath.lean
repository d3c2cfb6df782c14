/-
  What covers: small losses above small needs: no error, the greatest sum of two of one scene, come to by some two.
-/
import Derived.Test.YtlanggdmdpjfbaaDoorStressMath
namespace Go.Proofs.YtlanggdmdpjfbaaDoor
open Go Go.RowKit
set_option linter.unusedVariables false

def ab3 (v : Int) : Int := if v.tmod 1000 < 0 then -(v.tmod 1000) else v.tmod 1000
def ab6 (v : Int) : Int := if v.tmod 1000000 < 0 then -(v.tmod 1000000) else v.tmod 1000000
theorem tmod3_bd (v : Int) : -999 ≤ v.tmod 1000 ∧ v.tmod 1000 ≤ 999 := by
  by_cases h : 0 ≤ v
  · rw [Int.tmod_eq_emod_of_nonneg h]; omega
  · have e : v = -(-v) := by omega
    rw [e, Int.neg_tmod, Int.tmod_eq_emod_of_nonneg (by omega)]; omega
theorem tmod6_bd (v : Int) : -999999 ≤ v.tmod 1000000 ∧ v.tmod 1000000 ≤ 999999 := by
  by_cases h : 0 ≤ v
  · rw [Int.tmod_eq_emod_of_nonneg h]; omega
  · have e : v = -(-v) := by omega
    rw [e, Int.neg_tmod, Int.tmod_eq_emod_of_nonneg (by omega)]; omega
theorem ab3_bd (v : Int) : 0 ≤ ab3 v ∧ ab3 v ≤ 999 := by
  have := tmod3_bd v
  unfold ab3
  split <;> omega
theorem ab6_bd (v : Int) : 0 ≤ ab6 v ∧ ab6 v ≤ 999999 := by
  have := tmod6_bd v
  unfold ab6
  split <;> omega
/-- losses that are small. -/
def SmT (T : LTab) : Prop := ∀ s, getL T s ≤ 999999
theorem noL_sm : SmT noL := fun s => by rw [getL_no]; omega
theorem SmT.set {T : LTab} (h : SmT T) (s : CelT) {x : Int} (hx : x ≤ 999999) : SmT (setLT T s x) := fun t => by
  rw [getL_set]
  split
  · exact hx
  · exact h t
theorem topA_le' (M : Int) : ∀ (l : List Int) (p : Int × Int), p.1 ≤ M → p.2 ≤ M → (∀ x ∈ l, x ≤ M) → (l.foldl topS p).1 ≤ M ∧ (l.foldl topS p).2 ≤ M
  | [], p, h1, h2, _ => ⟨h1, h2⟩
  | x :: l, p, h1, h2, h => by
    have hx := h x (List.mem_cons_self ..)
    simp only [List.foldl_cons]
    exact topA_le' M l _ (by simp only [topS]; omega) (by simp only [topS]; omega) (fun y hy => h y (List.mem_cons_of_mem _ hy))
theorem abvL_le {T : LTab} (hs : SmT T) (s : Int) {l : List Int} (hl : AllAm l) : ∀ x ∈ abvL T s l, x ≤ 999999 := fun x hx => by
  unfold abvL abvK at hx
  obtain ⟨i, hi, rfl⟩ := List.mem_map.1 hx
  have h1 := hs (s, (i : Int) + 1)
  have h2 := hl _ (getI22_mem (List.mem_range.1 hi))
  unfold amOk at h2
  unfold abvAt
  omega
/-- no error where all is small. -/
theorem two_small {T : LTab} (hT : LoT T) (hs : SmT T) {s : Int} (hc : scOk s) {l : List Int} (hl : AllAm l) (h8 : l.length ≤ 32) :
    twoC T s l = 0 ∧ twoV T s l = (topA (abvL T s l)).1 + (topA (abvL T s l)).2 ∧ twoV T s l ≤ 1999998 := by
  obtain ⟨e1, e2⟩ := two_top (T := T) (by omega) hc hl
  have hA := abvL_am hT s hl
  have hb := topA_le' 999999 (abvL T s l) (0, 0) (by simp) (by simp) (abvL_le hs s hl)
  change (topA (abvL T s l)).1 ≤ 999999 ∧ (topA (abvL T s l)).2 ≤ 999999 at hb
  obtain ⟨f1, f2⟩ := topC_fine hA (by omega)
  rw [e1, e2, f1, f2]
  exact ⟨rfl, rfl, by omega⟩
/-- a greater need leaves no more. -/
theorem two_less {T : LTab} (hT : LoT T) (hs : SmT T) {s : Int} (hc : scOk s) {l m : List Int} (hl : AllAm l) (hm : AllAm m) (hlen : l.length = m.length) (h : ∀ k, k < l.length → l.getD k 0 ≤ m.getD k 0) (h8 : l.length ≤ 32) :
    twoV T s m ≤ twoV T s l := by
  rw [(two_small hT hs hc hl h8).2.1, (two_small hT hs hc hm (by omega)).2.1]
  have hk : ∀ k, k < (abvL T s m).length → (abvL T s m).getD k 0 ≤ (abvL T s l).getD k 0 := fun k hk => by
    unfold abvL at hk ⊢
    rw [abvK_len] at hk
    rw [abvK_at _ _ _ _ _ hk, abvK_at _ _ _ _ _ (by omega)]
    have := h k (by omega)
    unfold abvAt
    omega
  have := topA_mono (abvL T s m) (abvL T s l) (0, 0) (0, 0) (by unfold abvL; rw [abvK_len, abvK_len, hlen]) hk (Int.le_refl _) (Int.le_refl _)
  unfold topA
  omega
theorem cov_small {T : LTab} (hT : LoT T) (hs : SmT T) {l : List Int} (hl : AllAm l) (h8 : l.length ≤ 32) :
    (covR T l).c = 0 ∧ (1 ≤ (covR T l).s ∧ (covR T l).s ≤ 16) ∧ (∀ s, scOk s → twoV T s l ≤ (covR T l).v) ∧ ((covR T l).v = 0 ∨ (covR T l).v = twoV T (covR T l).s l) ∧ 0 ≤ (covR T l).v ∧ (covR T l).v ≤ 1999998 := by
  obtain ⟨h1, h2, h3, h4⟩ := covS_fine (T := T) (l := l) (fun s hc => (two_small hT hs hc hl h8).1) 16 (Nat.le_refl _)
  have hb := covS_bd T l 16
  refine ⟨h1, h2, fun s hc => ?_, h4, hb.1, ?_⟩
  · have hc' := hc
    unfold scOk at hc'
    have := h3 (s - 1).toNat (by omega)
    rwa [show (((s - 1).toNat : Nat) : Int) + 1 = s by omega] at this
  · show (covS T l 16).v ≤ _
    rcases h4 with e | e
    · rw [e]; omega
    · rw [e]
      exact (two_small hT hs (by unfold scOk; omega) hl h8).2.2
/-- the second one: nothing where it is the first. -/
def secA (T : LTab) (s : Int) (l : List Int) (a b : Nat) : Int := if b = a then 0 else abvAt T s l b
theorem cov_most {T : LTab} (hT : LoT T) (hs : SmT T) {l : List Int} (hl : AllAm l) (h8 : l.length ≤ 32) {s : Int} (hc : scOk s) {a b : Nat} (ha : a < l.length) (hb : b < l.length) :
    0 ≤ abvAt T s l a ∧ 0 ≤ secA T s l a b ∧ abvAt T s l a + secA T s l a b ≤ (covR T l).v ∧ (covR T l).v ≤ 1999998 := by
  have h3 := (cov_small hT hs hl h8).2.2.1 s hc
  have h6 := (cov_small hT hs hl h8).2.2.2.2.2
  rw [(two_small hT hs hc hl h8).2.1] at h3
  have hA := abvL_am hT s hl
  have hbd := topA_bd hA
  have ga : 0 ≤ abvAt T s l a := by unfold abvAt; omega
  have gb : 0 ≤ abvAt T s l b := by unfold abvAt; omega
  unfold secA
  split
  · have h1 := topA_one hA (i := a) (by unfold abvL; rw [abvK_len]; exact ha)
    unfold abvL at h1 h3 hbd
    rw [abvK_at _ _ _ _ _ ha] at h1
    exact ⟨ga, Int.le_refl _, by omega, h6⟩
  · rename_i hne
    have h1 := topA_two hA (i := a) (j := b) (by unfold abvL; rw [abvK_len]; exact ha) (by unfold abvL; rw [abvK_len]; exact hb) (fun e => hne e.symm)
    unfold abvL at h1 h3 hbd
    rw [abvK_at _ _ _ _ _ ha, abvK_at _ _ _ _ _ hb] at h1
    exact ⟨ga, gb, by omega, h6⟩
theorem cov_some {T : LTab} (hT : LoT T) (hs : SmT T) {l : List Int} (hl : AllAm l) (h8 : l.length ≤ 32) :
    ∃ i j, (covR T l).v = 0 ∨ (i < l.length ∧ j < l.length ∧ abvAt T (covR T l).s l i + secA T (covR T l).s l i j = (covR T l).v) := by
  obtain ⟨_, hsc, _, h4, _⟩ := cov_small hT hs hl h8
  rcases h4 with h4 | h4
  · exact ⟨0, 0, .inl h4⟩
  · have hc : scOk (covR T l).s := hsc
    rw [(two_small hT hs hc hl h8).2.1] at h4
    generalize (covR T l).s = s at *
    have hA := abvL_am hT s hl
    by_cases h0 : l.length = 0
    · refine ⟨0, 0, .inl ?_⟩
      rw [h4]
      have e : abvL T s l = [] := List.eq_nil_of_length_eq_zero (by unfold abvL; rw [abvK_len, h0])
      rw [e]
      rfl
    · have hlen : (abvL T s l).length = l.length := by unfold abvL; rw [abvK_len]
      have q := topA_some hA (abvL T s l).length (by omega) (Nat.le_refl _)
      rw [List.take_length] at q
      obtain ⟨i, hi, e1, e2⟩ := q
      rw [hlen] at hi
      have ei : (abvL T s l).getD i 0 = abvAt T s l i := by unfold abvL; rw [abvK_at _ _ _ _ _ hi]
      rw [ei] at e1
      rcases e2 with e2 | ⟨j, hj, hne, e2⟩
      · refine ⟨i, i, .inr ⟨hi, hi, ?_⟩⟩
        unfold secA
        rw [if_pos rfl, h4]
        omega
      · rw [hlen] at hj
        have ej : (abvL T s l).getD j 0 = abvAt T s l j := by unfold abvL; rw [abvK_at _ _ _ _ _ hj]
        rw [ej] at e2
        refine ⟨i, j, .inr ⟨hi, hj, ?_⟩⟩
        unfold secA
        rw [if_neg hne, h4]
        omega
theorem ab3_am (z : List Int) : AllAm (z.map ab3) := fun x hx => by
  obtain ⟨y, _, rfl⟩ := List.mem_map.1 hx
  have := ab3_bd y
  unfold amOk
  omega
theorem ab5_am (z : List Int) : AllAm (z.map fun y => ab3 y + 5) := fun x hx => by
  obtain ⟨y, _, rfl⟩ := List.mem_map.1 hx
  have := ab3_bd y
  unfold amOk
  omega
theorem cov_less {T : LTab} (hT : LoT T) (hs : SmT T) {z : List Int} (h8 : z.length ≤ 32) : (covR T (z.map fun y => ab3 y + 5)).v ≤ (covR T (z.map ab3)).v := by
  have hl := ab3_am z
  have hm := ab5_am z
  have h3 := (cov_small hT hs hl (by simpa using h8)).2.2
  obtain ⟨_, hsc, _, h4, _⟩ := cov_small hT hs hm (by simpa using h8)
  rcases h4 with h4 | h4
  · omega
  · rw [h4]
    refine Int.le_trans (two_less hT hs hsc hl hm (by simp) (fun k hk => ?_) (by simpa using h8)) (h3.1 _ hsc)
    rw [List.length_map] at hk
    simp only [List.getD_eq_getElem?_getD, List.getElem?_map, List.getElem?_eq_getElem hk, Option.map_some, Option.getD_some]
    omega
/-- what is still to come: the witness lies at or behind the place, as long as nothing was found. -/
def PendC (Wt : Prop) (S : Int) (i j : Nat) (s : Int) (a b : Nat) (f : Bool) : Prop := f = false → Wt ∧ (s < S ∨ (s = S ∧ (a < i ∨ (a = i ∧ b ≤ j))))
theorem take_map22 (f : Int → Int) (l : List Int) (k : Nat) (h : k < l.length) : (l.take (k + 1)).map f = (l.take k).map f ++ [f (l.getD k 0)] := by
  rw [take_snoc22 l k h, List.map_append]
  rfl
end Go.Proofs.YtlanggdmdpjfbaaDoor
