/-
  A schedule: entries by day, then class; what is added, what is eligible, when it turns.
-/
import Derived.Test.YtfoiclgipnlfnaaDoorRow
namespace Go.Proofs.YtfoiclgipnlfnaaDoor
open Go Go.RowKit
set_option linter.unusedVariables false

/-- an entry: its day, its class, on or off. -/
structure En where
  d : Int
  c : Int
  o : Bool
theorem En.ext' {a b : En} (h1 : a.d = b.d) (h2 : a.c = b.c) (h3 : a.o = b.o) : a = b := by
  cases a; cases b; simp_all
def enZ : En := ⟨0, 0, false⟩
def enV (e : En) : List Value := [.int .i64 e.d, .int .i64 e.c, .bool e.o]
theorem enV_len (e : En) : (enV e).length = 3 := rfl
theorem enV_one (e : En) : ∀ u ∈ enV e, u.oneCell' = true := fun u hu => by
  simp only [enV, List.mem_cons, List.not_mem_nil, or_false] at hu
  rcases hu with rfl | rfl | rfl <;> rfl
abbrev enA (e : En) : Value := .agg #[.int .i64 e.d, .int .i64 e.c, .bool e.o]
/-- may it be? -/
def EnOk (e : En) : Prop := (0 ≤ e.d ∧ e.d ≤ 40000) ∧ (1 ≤ e.c ∧ e.c ≤ 6)
instance (e : En) : Decidable (EnOk e) := by unfold EnOk; infer_instance
def vE (e : En) : Int := if EnOk e then 0 else 103
/-- which stands ahead? -/
def aheadE (a b : En) : Prop := a.d < b.d ∨ (a.d = b.d ∧ a.c < b.c)
instance (a b : En) : Decidable (aheadE a b) := by unfold aheadE; infer_instance
/-- in order, no two of one day and class. -/
def SortedE (l : List En) : Prop := ∀ j k, j < k → k < l.length → aheadE (l.getD j enZ) (l.getD k enZ)
/-- an entry's place among others. -/
def PlaceE (l : List En) (e : En) (k : Nat) : Prop := k ≤ l.length ∧ (∀ j, j < k → aheadE (l.getD j enZ) e) ∧ (k < l.length → ¬ aheadE (l.getD k enZ) e)
theorem PlaceE.one {l : List En} {e : En} {k k' : Nat} (h : PlaceE l e k) (h' : PlaceE l e k') : k = k' := by
  rcases Nat.lt_trichotomy k k' with q | q | q
  · exact absurd (h'.2.1 k q) (h.2.2 (Nat.lt_of_lt_of_le q h'.1))
  · exact q
  · exact absurd (h.2.1 k' q) (h'.2.2 (Nat.lt_of_lt_of_le q h.1))
def plE : List En → En → Nat
  | [], _ => 0
  | a :: l, e => if aheadE a e then plE l e + 1 else 0
theorem plE_place : ∀ (l : List En) (e : En), PlaceE l e (plE l e)
  | [], e => ⟨Nat.le_refl _, fun j h => absurd h (Nat.not_lt_zero _), fun h => absurd h (Nat.lt_irrefl _)⟩
  | a :: l, e => by
    obtain ⟨h1, h2, h3⟩ := plE_place l e
    by_cases h : aheadE a e
    · have q : plE (a :: l) e = plE l e + 1 := if_pos h
      rw [q]
      refine ⟨by simpa using h1, fun j hj => ?_, fun hk => ?_⟩
      · cases j with
        | zero => exact h
        | succ j => exact h2 j (by omega)
      · exact h3 (by simpa using hk)
    · have q : plE (a :: l) e = 0 := if_neg h
      rw [q]
      exact ⟨Nat.zero_le _, fun j hj => absurd hj (Nat.not_lt_zero _), fun _ => h⟩
theorem plE_eq {l : List En} {e : En} {k : Nat} (h : PlaceE l e k) : plE l e = k := (plE_place l e).one h
/-- is there one of that day and class? -/
def hitE (l : List En) (e : En) : Bool := decide (plE l e < l.length ∧ ¬ aheadE e (l.getD (plE l e) enZ))
def insE (l : List En) (k : Nat) (e : En) : List En := l.take k ++ e :: l.drop k
def adC (l : List En) (e : En) : Int := if EnOk e then (if hitE l e = true then 0 else if 64 ≤ l.length then 105 else 0) else 103
def nextE (l : List En) (e : En) : List En := if EnOk e then (if hitE l e = true then l.set (plE l e) e else if 64 ≤ l.length then l else insE l (plE l e) e) else l
theorem adE_no {l : List En} {e : En} (h : ¬ EnOk e) : adC l e = 103 ∧ vE e = 103 ∧ nextE l e = l := ⟨if_neg h, if_neg h, if_neg h⟩
theorem adE_hit {l : List En} {e : En} (h : EnOk e) (q : hitE l e = true) : adC l e = 0 ∧ vE e = 0 ∧ nextE l e = l.set (plE l e) e := by
  refine ⟨?_, if_pos h, ?_⟩
  · unfold adC; rw [if_pos h, if_pos q]
  · unfold nextE; rw [if_pos h, if_pos q]
theorem adE_full {l : List En} {e : En} (h : EnOk e) (q : hitE l e = false) (hl : 64 ≤ l.length) : adC l e = 105 ∧ vE e = 0 ∧ nextE l e = l := by
  refine ⟨?_, if_pos h, ?_⟩
  · unfold adC; rw [if_pos h, if_neg (by rw [q]; decide), if_pos hl]
  · unfold nextE; rw [if_pos h, if_neg (by rw [q]; decide), if_pos hl]
theorem adE_new {l : List En} {e : En} (h : EnOk e) (q : hitE l e = false) (hl : l.length < 64) : adC l e = 0 ∧ vE e = 0 ∧ nextE l e = insE l (plE l e) e := by
  refine ⟨?_, if_pos h, ?_⟩
  · unfold adC; rw [if_pos h, if_neg (by rw [q]; decide), if_neg (by omega)]
  · unfold nextE; rw [if_pos h, if_neg (by rw [q]; decide), if_neg (by omega)]
theorem adC_code (l : List En) (e : En) : adC l e = 0 ∨ (101 ≤ adC l e ∧ adC l e ≤ 121) := by
  unfold adC
  repeat' split
  all_goals omega
theorem vE_code (e : En) : vE e = 0 ∨ (101 ≤ vE e ∧ vE e ≤ 121) := by
  unfold vE
  split <;> omega
theorem getE_set (l : List En) (k j : Nat) (e : En) (hk : k < l.length) : (l.set k e).getD j enZ = if k = j then e else l.getD j enZ := by
  rw [List.getD_eq_getElem?_getD, List.getElem?_set]
  by_cases h : k = j
  · subst h; simp [hk]
  · simp [h, List.getD_eq_getElem?_getD]
theorem insE_len {l : List En} {k : Nat} (e : En) (hk : k ≤ l.length) : (insE l k e).length = l.length + 1 := by
  unfold insE
  simp
  omega
theorem insE_at {l : List En} {k : Nat} (e : En) (hk : k ≤ l.length) (j : Nat) : (insE l k e).getD j enZ = if j < k then l.getD j enZ else if j = k then e else l.getD (j - 1) enZ := by
  unfold insE
  have hA : (l.take k).length = k := by rw [List.length_take]; omega
  rw [List.getD_eq_getElem?_getD, List.getElem?_append, hA]
  by_cases h : j < k
  · rw [if_pos h, if_pos h, List.getElem?_take, if_pos h, List.getD_eq_getElem?_getD]
  · rw [if_neg h, if_neg h]
    by_cases h2 : j = k
    · rw [if_pos h2, h2, Nat.sub_self]; rfl
    · rw [if_neg h2, show j - k = (j - k - 1) + 1 by omega, List.getElem?_cons_succ, List.getElem?_drop, List.getD_eq_getElem?_getD, show k + (j - k - 1) = j - 1 by omega]
theorem SortedE.put {l : List En} {e : En} (h : SortedE l) (q : hitE l e = true) : SortedE (l.set (plE l e) e) := by
  obtain ⟨h1, h2, h3⟩ := plE_place l e
  obtain ⟨q1, q2⟩ := of_decide_eq_true q
  have h4 := h3 q1
  generalize plE l e = k at *
  intro i j hij hj
  rw [List.length_set] at hj
  rw [getE_set _ _ _ _ q1, getE_set _ _ _ _ q1]
  have hs := h i j hij hj
  unfold aheadE at *
  by_cases e1 : k = i
  · subst e1
    rw [if_pos rfl, if_neg (by omega)]
    omega
  · rw [if_neg e1]
    by_cases e2 : k = j
    · subst e2
      rw [if_pos rfl]
      omega
    · rw [if_neg e2]; exact hs
theorem SortedE.ins {l : List En} {e : En} (h : SortedE l) (q : hitE l e = false) : SortedE (insE l (plE l e) e) := by
  obtain ⟨h1, h2, h3⟩ := plE_place l e
  have q1 := of_decide_eq_false q
  have hgo : ∀ j, plE l e ≤ j → j < l.length → aheadE e (l.getD j enZ) := fun j hj hjl => by
    have q2 : aheadE e (l.getD (plE l e) enZ) := Decidable.not_not.1 fun hn => q1 ⟨by omega, hn⟩
    by_cases e1 : plE l e = j
    · rw [← e1]; exact q2
    · have hs := h (plE l e) j (by omega) hjl
      unfold aheadE at *
      omega
  clear q q1
  generalize plE l e = k at *
  intro i j hij hj
  rw [insE_len e h1] at hj
  rw [insE_at e h1, insE_at e h1]
  by_cases hi : i < k
  · rw [if_pos hi]
    by_cases hj2 : j < k
    · rw [if_pos hj2]; exact h i j hij (by omega)
    · rw [if_neg hj2]
      by_cases hj3 : j = k
      · rw [if_pos hj3]; exact h2 i hi
      · rw [if_neg hj3]; exact h i (j - 1) (by omega) (by omega)
  · rw [if_neg hi, if_neg (show ¬ j < k by omega), if_neg (show ¬ j = k by omega)]
    by_cases hi2 : i = k
    · rw [if_pos hi2]; exact hgo (j - 1) (by omega) (by omega)
    · rw [if_neg hi2]; exact h (i - 1) (j - 1) (by omega) (by omega)
theorem SortedE.next {l : List En} (h : SortedE l) (e : En) : SortedE (nextE l e) := by
  unfold nextE
  split
  · split
    · exact h.put (by assumption)
    · split
      · exact h
      · exact h.ins (by simpa using (by assumption : ¬ hitE l e = true))
  · exact h
theorem nextE_le {l : List En} (h : l.length ≤ 64) (e : En) : (nextE l e).length ≤ 64 := by
  unfold nextE
  split
  · split
    · rw [List.length_set]; exact h
    · split
      · exact h
      · rw [insE_len e (plE_place l e).1]; omega
  · exact h

/-! What is eligible. -/
def onE (l : List En) (c t : Int) : Bool := l.foldl (fun b e => if e.c = c ∧ e.d ≤ t then e.o else b) false
theorem takeE_next (l : List En) (k : Nat) (hk : k < l.length) : l.take (k + 1) = l.take k ++ [l.getD k enZ] := by
  rw [List.take_succ_eq_append_getElem hk, List.getD_eq_getElem?_getD, List.getElem?_eq_getElem hk]; rfl
theorem onE_app (l : List En) (e : En) (c t : Int) : onE (l ++ [e]) c t = if e.c = c ∧ e.d ≤ t then e.o else onE l c t := by
  unfold onE
  rw [List.foldl_append]
  rfl
theorem onE_next (l : List En) (c t : Int) (k : Nat) (hk : k < l.length) : onE (l.take (k + 1)) c t = if (l.getD k enZ).c = c ∧ (l.getD k enZ).d ≤ t then (l.getD k enZ).o else onE (l.take k) c t := by
  rw [takeE_next l k hk, onE_app]
/-- the first day on which it turns. -/
def nxE : List En → Int → Int → Bool → Option Int
  | [], _, _, _ => none
  | e :: l, c, t, on => if e.c = c ∧ t < e.d ∧ e.o ≠ on then some e.d else nxE l c t on
theorem nxE_drop (l : List En) (c t : Int) (on : Bool) (k : Nat) (hk : k < l.length) : nxE (l.drop k) c t on = if (l.getD k enZ).c = c ∧ t < (l.getD k enZ).d ∧ (l.getD k enZ).o ≠ on then some (l.getD k enZ).d else nxE (l.drop (k + 1)) c t on := by
  rw [List.drop_eq_getElem_cons hk, nxE, List.getD_eq_getElem?_getD, List.getElem?_eq_getElem hk]
  rfl
theorem nxE_app (l : List En) (e : En) (c t : Int) (on : Bool) : nxE (l ++ [e]) c t on = (nxE l c t on).or (if e.c = c ∧ t < e.d ∧ e.o ≠ on then some e.d else none) := by
  induction l with
  | nil => simp [nxE]
  | cons a l ih =>
    rw [List.cons_append, nxE, nxE]
    by_cases h : a.c = c ∧ t < a.d ∧ a.o ≠ on
    · rw [if_pos h, if_pos h]; rfl
    · rw [if_neg h, if_neg h, ih]
end Go.Proofs.YtfoiclgipnlfnaaDoor
