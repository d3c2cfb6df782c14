/-
  The default fund: a number within its bounds; what the fund is sized to, by which weights it is split; what is called. Pure.
-/
import Derived.Test.YtlanggdmdpjfbaaDoorStressCovMath
import Derived.Test.YtlanggdmdpjfbaaDoorShareMath
namespace Go.Proofs.YtlanggdmdpjfbaaDoor
open Go Go.RowKit
set_option linter.unusedVariables false

/-! A number within its bounds. -/
def bdOk (n f c : Int) : Prop := am23 n ∧ am23 f ∧ am23 c ∧ f ≤ c
instance (n f c : Int) : Decidable (bdOk n f c) := by unfold bdOk; infer_instance
def clC (n f c : Int) : Int := if bdOk n f c then 0 else 103
def clV (n f c : Int) : Int := if bdOk n f c then (if n < f then f else if c < n then c else n) else 0
theorem clC_fine {n f c : Int} : clC n f c = 0 ↔ bdOk n f c := by
  unfold clC
  split
  · exact ⟨fun _ => by assumption, fun _ => rfl⟩
  · exact ⟨fun h => by simp at h, fun h => by contradiction⟩
theorem clV_bd (n f c : Int) : am23 (clV n f c) := by
  unfold clV
  split
  · rename_i h
    obtain ⟨h1, h2, h3, h4⟩ := h
    split
    · exact h2
    · split
      · exact h3
      · exact h1
  · exact ⟨by decide, by decide⟩
/-- the ways of the tests, in their order. -/
theorem cl_ways (n f c : Int) : (decide (am23 n) = false ∧ clC n f c = 103 ∧ clV n f c = 0) ∨ (decide (am23 n) = true ∧ decide (am23 f) = false ∧ clC n f c = 103 ∧ clV n f c = 0) ∨
    (decide (am23 n) = true ∧ decide (am23 f) = true ∧ decide (am23 c) = false ∧ clC n f c = 103 ∧ clV n f c = 0) ∨
    (decide (am23 n) = true ∧ decide (am23 f) = true ∧ decide (am23 c) = true ∧ c < f ∧ clC n f c = 103 ∧ clV n f c = 0) ∨
    (decide (am23 n) = true ∧ decide (am23 f) = true ∧ decide (am23 c) = true ∧ f ≤ c ∧ clC n f c = 0 ∧ clV n f c = (if n < f then f else if c < n then c else n)) := by
  by_cases h1 : am23 n
  · by_cases h2 : am23 f
    · by_cases h3 : am23 c
      · by_cases h4 : f ≤ c
        · exact .inr (.inr (.inr (.inr ⟨decide_eq_true h1, decide_eq_true h2, decide_eq_true h3, h4, if_pos ⟨h1, h2, h3, h4⟩, if_pos ⟨h1, h2, h3, h4⟩⟩)))
        · exact .inr (.inr (.inr (.inl ⟨decide_eq_true h1, decide_eq_true h2, decide_eq_true h3, by omega, if_neg (fun q => h4 q.2.2.2), if_neg (fun q => h4 q.2.2.2)⟩)))
      · exact .inr (.inr (.inl ⟨decide_eq_true h1, decide_eq_true h2, decide_eq_false h3, if_neg (fun q => h3 q.2.2.1), if_neg (fun q => h3 q.2.2.1)⟩))
    · exact .inr (.inl ⟨decide_eq_true h1, decide_eq_false h2, if_neg (fun q => h2 q.2.1), if_neg (fun q => h2 q.2.1)⟩)
  · exact .inl ⟨decide_eq_false h1, if_neg (fun q => h1 q.1), if_neg (fun q => h1 q.1)⟩

/-! The weights. -/
/-- the greatest of the first k + 1. -/
def mxL (L : List Int) : Nat → Int
  | 0 => wF L 0
  | k + 1 => max (mxL L k) (wF L (k + 1))
theorem mxL_zero {L : List Int} (h : ∀ i, i < L.length → am23 (wF L i)) : ∀ k, k < L.length → 0 ≤ mxL L k ∧ 0 ≤ suF (wF L) (k + 1) ∧ (mxL L k = 0 ↔ suF (wF L) (k + 1) = 0)
  | 0, hk => by
    have h1 := (h 0 hk).1
    have e : suF (wF L) 1 = wF L 0 := by simp [suF]
    rw [e]
    exact ⟨h1, h1, Iff.rfl⟩
  | k + 1, hk => by
    obtain ⟨a1, a2, a3⟩ := mxL_zero h k (by omega)
    have h1 := (h (k + 1) hk).1
    have e : suF (wF L) (k + 1 + 1) = suF (wF L) (k + 1) + wF L (k + 1) := rfl
    have e2 : mxL L (k + 1) = max (mxL L k) (wF L (k + 1)) := rfl
    rw [e, e2]
    omega
theorem mx_zero {L : List Int} (h : ∀ i, i < L.length → am23 (wF L i)) (h0 : 0 < L.length) : mxL L (L.length - 1) = 0 ↔ smW L = 0 := by
  obtain ⟨_, _, a3⟩ := mxL_zero h (L.length - 1) (by omega)
  rw [show L.length - 1 + 1 = L.length from by omega] at a3
  exact a3
def wtL (L : List Int) : List Int := if smW L = 0 then List.replicate L.length 1 else L
theorem wtL_len (L : List Int) : (wtL L).length = L.length := by
  unfold wtL
  split <;> simp
theorem am_allW {L : List Int} (h : AllAm L) : ∀ i, i < L.length → am23 (wF L i) := fun i hi => h _ (getI22_mem hi)
theorem allW_am {L : List Int} (h : ∀ i, i < L.length → am23 (wF L i)) : AllAm L := allAm_of fun k hk => h k hk
theorem ones_at {n i : Nat} (h : i < n) : wF (List.replicate n 1) i = 1 := by
  unfold wF
  rw [List.getD_eq_getElem?_getD, List.getElem?_replicate, if_pos h]; rfl
theorem ones_sum (n : Nat) : smW (List.replicate n 1) = n := by
  unfold smW
  rw [List.length_replicate]
  have := suF_const 1 n
  rw [Int.one_mul] at this
  rw [← this]
  exact suF_same fun i hi => ones_at hi
theorem ones_fine {n : Nat} {W : Int} (hn : n ≤ 32) (h0 : 0 < n) (hW : am23 W) : shC W (List.replicate n 1) = 0 := by
  refine shC_fine.2 ⟨by simpa using hn, hW, fun i hi => ?_, ?_, fun h => ?_⟩
  · rw [List.length_replicate] at hi
    rw [ones_at hi]; exact ⟨by decide, by decide⟩
  · rw [ones_sum]; omega
  · rw [ones_sum] at h; omega
theorem ones_snoc (k : Nat) : List.replicate (k + 1) (Value.int .i64 1) = List.replicate k (Value.int .i64 1) ++ [Value.int .i64 1] := by
  rw [List.replicate_succ']
theorem ones_map (k : Nat) : (List.replicate k (1 : Int)).map (Value.int .i64) = List.replicate k (Value.int .i64 1) := by simp

/-! The sizing. -/
theorem cov_am {T : LTab} {L : List Int} (h : (covR T L).c = 0) : AllAm L ∧ L.length ≤ 32 := by
  have h1 : twoC T 1 L = 0 := by
    by_cases q : twoC T 1 L = 0
    · exact q
    · have := covS_bad (T := T) (l := L) (k := 0) (by decide) rfl q
      rw [this] at h
      exact absurd h q
  by_cases h2 : 32 < L.length
  · rw [(two_many h2).1] at h1; simp at h1
  · refine ⟨?_, by omega⟩
    by_cases h3 : AllAm L
    · exact h3
    · rw [(two_bad h2 (show scOk 1 from ⟨by decide, by decide⟩) h3).1] at h1; simp at h1
theorem cov_v (T : LTab) (L : List Int) : am23 (covR T L).v := covS_bd T L 16
/-- what the fund is sized to. -/
def siW (T : LTab) (f c : Int) (L : List Int) : Int := clV (covR T L).v f c
/-- the error's number. -/
def siC (T : LTab) (f c : Int) (L : List Int) : Int := if ¬ bdOk 0 f c then 103 else if (covR T L).c ≠ 0 then (covR T L).c else if L.length = 0 then 0 else shC (siW T f c L) (wtL L)
def siL (T : LTab) (f c : Int) (L : List Int) : List Int := if siC T f c L = 0 ∧ L.length ≠ 0 then shL (siW T f c L) (wtL L) else []
/-- a number, if there is no error. -/
def siN (T : LTab) (f c : Int) (L : List Int) (x : Int) : Int := if siC T f c L = 0 then x else 0
theorem si_ways (T : LTab) (f c : Int) (L : List Int) : (clC 0 f c = 103 ∧ siC T f c L = 103) ∨ (clC 0 f c = 0 ∧ (covR T L).c ≠ 0 ∧ siC T f c L = (covR T L).c) ∨
    (clC 0 f c = 0 ∧ (covR T L).c = 0 ∧ clC (covR T L).v f c = 0 ∧ L.length = 0 ∧ siC T f c L = 0) ∨
    (clC 0 f c = 0 ∧ (covR T L).c = 0 ∧ clC (covR T L).v f c = 0 ∧ L.length ≠ 0 ∧ siC T f c L = shC (siW T f c L) (wtL L)) := by
  unfold siC
  by_cases h : bdOk 0 f c
  · rw [if_neg (by simpa using h)]
    have h' : clC (covR T L).v f c = 0 := clC_fine.2 ⟨cov_v T L, h.2.1, h.2.2.1, h.2.2.2⟩
    by_cases h2 : (covR T L).c = 0
    · rw [if_neg (by simpa using h2)]
      by_cases h3 : L.length = 0
      · exact .inr (.inr (.inl ⟨clC_fine.2 h, h2, h', h3, if_pos h3⟩))
      · exact .inr (.inr (.inr ⟨clC_fine.2 h, h2, h', h3, if_neg h3⟩))
    · exact .inr (.inl ⟨clC_fine.2 h, h2, if_pos h2⟩)
  · exact .inl ⟨if_neg h, if_pos h⟩

/-! What is called. -/
def abX (n f : Int) : Int := if n ≤ f then 0 else if n - f ≤ 9223372036854775807 then n - f else 9223372036854775807
def cfF (old new : List Int) (i : Nat) : Int := abX (wF new i) (wF old i)
def cfN (old new : List Int) : Nat := max old.length new.length
def cfL (old new : List Int) : List Int := (List.range (cfN old new)).map (cfF old new)
theorem cfL_len (old new : List Int) : (cfL old new).length = cfN old new := by simp [cfL]
theorem cfL_at {old new : List Int} {i : Nat} (h : i < cfN old new) : (cfL old new).getD i 0 = cfF old new i := by
  unfold cfL
  rw [List.getD_eq_getElem?_getD, List.getElem?_map, List.getElem?_range h]; rfl
theorem wF_over {L : List Int} {i : Nat} (h : L.length ≤ i) : wF L i = 0 := by
  unfold wF
  rw [List.getD_eq_getElem?_getD, List.getElem?_eq_none h]; rfl
theorem abX_small {n f : Int} (h1 : 0 ≤ n) (h2 : 0 ≤ f) (h3 : n ≤ 9223372036854775807) : abX n f = max 0 (n - f) := by
  unfold abX
  split
  · omega
  · split <;> omega
theorem cfL_nil {L : List Int} (h : ∀ i, i < L.length → 0 ≤ wF L i ∧ wF L i ≤ 9223372036854775807) : cfL [] L = L := by
  refine List.ext_getElem (by simp [cfL, cfN]) fun i h1 h2 => ?_
  have e1 : (cfL [] L)[i] = cfF [] L i := by simp [cfL]
  have e2 : L[i] = wF L i := by unfold wF; rw [List.getD_eq_getElem?_getD, List.getElem?_eq_getElem h2]; rfl
  have h3 := h i h2
  rw [e1, e2]
  show abX (wF L i) (wF [] i) = _
  rw [show wF [] i = 0 from rfl]
  unfold abX
  split
  · omega
  · split <;> omega
end Go.Proofs.YtlanggdmdpjfbaaDoor
