/-
  Losses: a cell is a scene and a member; a table of what is lost at each cell; the two greatest of a list; of a scene above needs; of all scenes.
-/
import Derived.Test.YtlanggdmdpjfbaaDoorKeyTab2
namespace Go.Proofs.YtlanggdmdpjfbaaDoor
open Go Go.RowKit
set_option linter.unusedVariables false

abbrev CelT := Int × Int
/-- any numbers that an int holds. -/
def celIn (s : CelT) : Prop := (-9223372036854775808 ≤ s.1 ∧ s.1 ≤ 9223372036854775807) ∧ (-9223372036854775808 ≤ s.2 ∧ s.2 ≤ 9223372036854775807)
def celOk (s : CelT) : Prop := (1 ≤ s.1 ∧ s.1 ≤ 16) ∧ (1 ≤ s.2 ∧ s.2 ≤ 32)
def amOk (q : Int) : Prop := 0 ≤ q ∧ q ≤ 1000000000000000
instance (s : CelT) : Decidable (celOk s) := by unfold celOk; infer_instance
instance (q : Int) : Decidable (amOk q) := by unfold amOk; infer_instance
theorem celOk.isIn {s : CelT} (h : celOk s) : celIn s := by unfold celOk at h; unfold celIn; omega
abbrev LTab := CelT → Option Int
def getL (T : LTab) (s : CelT) : Int := (T s).getD 0
def noL : LTab := fun _ => none
/-- nothing is there but cells that may be, with losses above nothing. -/
def LoT (T : LTab) : Prop := ∀ s x, T s = some x → celOk s ∧ 1 ≤ x ∧ x ≤ 1000000000000000
theorem noL_lo : LoT noL := fun s x h => by cases h
theorem LoT.upd {T : LTab} (h : LoT T) {s : CelT} {x : Int} (hs : celOk s) (hx : amOk x) (h0 : x ≠ 0) : LoT (updK T s x) := fun s' x' e => by
  unfold updK at e
  split at e
  · rename_i q; subst q
    obtain rfl := Option.some.inj e
    unfold amOk at hx
    exact ⟨hs, by omega, by omega⟩
  · exact h _ _ e
theorem LoT.drop {T : LTab} (h : LoT T) (s : CelT) : LoT (dropK T s) := fun s' x' e => by
  unfold dropK at e
  split at e
  · cases e
  · exact h _ _ e
theorem LoT.get {T : LTab} (h : LoT T) (s : CelT) : 0 ≤ getL T s ∧ getL T s ≤ 1000000000000000 := by
  unfold getL
  cases e : T s with
  | none => simp
  | some x => have := h s x e; simp only [Option.getD_some]; omega
theorem LoT.out {T : LTab} (h : LoT T) {s : CelT} (hs : ¬ celOk s) : getL T s = 0 := by
  unfold getL
  cases e : T s with
  | none => rfl
  | some x => exact absurd (h s x e).1 hs
theorem getL_upd (T : LTab) (s t : CelT) (x : Int) : getL (updK T s x) t = if t = s then x else getL T t := by
  unfold getL updK
  split <;> rfl
theorem getL_drop (T : LTab) (s t : CelT) : getL (dropK T s) t = if t = s then 0 else getL T t := by
  unfold getL dropK
  split <;> rfl
theorem getL_no (s : CelT) : getL noL s = 0 := rfl

/-! Set. -/
def setLC (s : CelT) (x : Int) : Int := if celOk s ∧ amOk x then 0 else 103
def setLT (T : LTab) (s : CelT) (x : Int) : LTab := if celOk s ∧ amOk x then (if x = 0 then dropK T s else updK T s x) else T
theorem LoT.set {T : LTab} (h : LoT T) (s : CelT) (x : Int) : LoT (setLT T s x) := by
  unfold setLT
  split
  · rename_i e
    split
    · exact h.drop s
    · rename_i e0
      exact h.upd e.1 e.2 e0
  · exact h
theorem getL_set (T : LTab) (s t : CelT) (x : Int) : getL (setLT T s x) t = if celOk s ∧ amOk x ∧ t = s then x else getL T t := by
  unfold setLT
  by_cases h : celOk s ∧ amOk x
  · rw [if_pos h]
    by_cases h0 : x = 0
    · rw [if_pos h0, getL_drop]
      by_cases ht : t = s
      · rw [if_pos ht, if_pos ⟨h.1, h.2, ht⟩, h0]
      · rw [if_neg ht, if_neg (fun e => ht e.2.2)]
    · rw [if_neg h0, getL_upd]
      by_cases ht : t = s
      · rw [if_pos ht, if_pos ⟨h.1, h.2, ht⟩]
      · rw [if_neg ht, if_neg (fun e => ht e.2.2)]
  · rw [if_neg h, if_neg (fun e => h ⟨e.1, e.2.1⟩)]

/-! All. -/
def rowLK (T : LTab) (s : Int) : Nat → List CelT
  | 0 => []
  | k + 1 => rowLK T s k ++ (if 0 < getL T (s, (k : Int) + 1) then [(s, (k : Int) + 1)] else [])
def allLK (T : LTab) : Nat → List CelT
  | 0 => []
  | k + 1 => allLK T k ++ rowLK T ((k : Int) + 1) 32
def allL (T : LTab) : List CelT := allLK T 16
theorem rowLK_le (T : LTab) (s : Int) : ∀ k, (rowLK T s k).length ≤ k
  | 0 => Nat.le_refl _
  | k + 1 => by
    have := rowLK_le T s k
    simp only [rowLK]
    split
    · simp; omega
    · simp; omega
theorem allLK_le (T : LTab) : ∀ k, (allLK T k).length ≤ k * 32
  | 0 => Nat.le_refl _
  | k + 1 => by
    have := allLK_le T k
    have := rowLK_le T ((k : Int) + 1) 32
    simp only [allLK, List.length_append]
    omega
theorem rowLK_more (T : LTab) (s : Int) (k : Nat) : ∀ d, ∃ r, rowLK T s (k + d) = rowLK T s k ++ r
  | 0 => ⟨[], by simp⟩
  | d + 1 => by
    obtain ⟨r, e⟩ := rowLK_more T s k d
    rw [← Nat.add_assoc]
    simp only [rowLK]
    rw [e, List.append_assoc]
    exact ⟨_, rfl⟩
theorem allLK_more (T : LTab) (k : Nat) : ∀ d, ∃ r, allLK T (k + d) = allLK T k ++ r
  | 0 => ⟨[], by simp⟩
  | d + 1 => by
    obtain ⟨r, e⟩ := allLK_more T k d
    rw [← Nat.add_assoc]
    simp only [allLK]
    rw [e, List.append_assoc]
    exact ⟨_, rfl⟩
/-- what has been gone through: k whole scenes, and j members of the next one. -/
def preL (T : LTab) (k j : Nat) : List CelT := allLK T k ++ rowLK T ((k : Int) + 1) j
theorem preL_zero (T : LTab) (k : Nat) : preL T k 0 = allLK T k := by simp [preL, rowLK]
theorem preL_last (T : LTab) (k : Nat) : preL T k 32 = allLK T (k + 1) := rfl
theorem preL_next (T : LTab) (k j : Nat) : preL T k (j + 1) = preL T k j ++ (if 0 < getL T ((k : Int) + 1, (j : Int) + 1) then [((k : Int) + 1, (j : Int) + 1)] else []) := by
  unfold preL
  simp only [rowLK]
  rw [List.append_assoc]
theorem preL_le (T : LTab) (k j : Nat) (hk : k < 16) (hj : j ≤ 32) : (preL T k j).length ≤ 512 := by
  have := allLK_le T k
  have := rowLK_le T ((k : Int) + 1) j
  unfold preL
  rw [List.length_append]
  omega
theorem preL_pre (T : LTab) (k j : Nat) (hk : k < 16) (hj : j ≤ 32) : ∃ r, allL T = preL T k j ++ r := by
  obtain ⟨r1, e1⟩ := rowLK_more T ((k : Int) + 1) j (32 - j)
  obtain ⟨r2, e2⟩ := allLK_more T (k + 1) (16 - (k + 1))
  rw [show j + (32 - j) = 32 by omega] at e1
  rw [show k + 1 + (16 - (k + 1)) = 16 by omega] at e2
  refine ⟨r1 ++ r2, ?_⟩
  unfold allL preL
  rw [e2]
  simp only [allLK]
  rw [e1]
  simp only [List.append_assoc]
/-- the cell that comes next stands at its place. -/
theorem allL_at (T : LTab) (k j : Nat) (hk : k < 16) (hj : j < 32) (h : 0 < getL T ((k : Int) + 1, (j : Int) + 1)) :
    (preL T k j).length < (allL T).length ∧ (allL T).getD (preL T k j).length (0, 0) = ((k : Int) + 1, (j : Int) + 1) := by
  obtain ⟨r, e⟩ := preL_pre T k (j + 1) hk (by omega)
  rw [preL_next, if_pos h, List.append_assoc] at e
  rw [e]
  constructor
  · simp
  · rw [List.getD_eq_getElem?_getD, List.getElem?_append_right (Nat.le_refl _), Nat.sub_self]
    rfl

/-! The two greatest. -/
def topS (p : Int × Int) (x : Int) : Int × Int := (max p.1 x, max p.2 (min p.1 x))
def topA (l : List Int) : Int × Int := l.foldl topS (0, 0)
def AllAm (l : List Int) : Prop := ∀ x ∈ l, amOk x
instance (l : List Int) : Decidable (AllAm l) := by unfold AllAm; infer_instance
def topC (l : List Int) : Int := if AllAm l then (if 1000000000000000 < (topA l).1 + (topA l).2 then 104 else 0) else 103
def topV (l : List Int) : Int := if topC l = 0 then (topA l).1 + (topA l).2 else 0
theorem topA_snoc (l : List Int) (x : Int) : topA (l ++ [x]) = topS (topA l) x := by
  unfold topA
  rw [List.foldl_append]
  rfl
theorem take_snoc22 (l : List Int) (k : Nat) (h : k < l.length) : l.take (k + 1) = l.take k ++ [l.getD k 0] := by
  rw [List.take_add_one, List.getElem?_eq_getElem h, List.getD_eq_getElem?_getD, List.getElem?_eq_getElem h]
  rfl
theorem topA_take (l : List Int) (k : Nat) (h : k < l.length) : topA (l.take (k + 1)) = topS (topA (l.take k)) (l.getD k 0) := by
  rw [take_snoc22 l k h, topA_snoc]
theorem getI22_mem {l : List Int} {k : Nat} (h : k < l.length) : l.getD k 0 ∈ l := by
  rw [List.getD_eq_getElem?_getD, List.getElem?_eq_getElem h]
  exact List.getElem_mem h
theorem allAm_of {l : List Int} (h : ∀ k, k < l.length → amOk (l.getD k 0)) : AllAm l := fun x hx => by
  obtain ⟨k, hk, rfl⟩ := List.mem_iff_getElem.1 hx
  have := h k hk
  rwa [List.getD_eq_getElem?_getD, List.getElem?_eq_getElem hk] at this
theorem AllAm.take {l : List Int} (h : AllAm l) (k : Nat) : AllAm (l.take k) := fun x hx => h x (List.mem_of_mem_take hx)
theorem topA_bd' : ∀ (l : List Int) (p : Int × Int), 0 ≤ p.2 → p.2 ≤ p.1 → p.1 ≤ 1000000000000000 → AllAm l → 0 ≤ (l.foldl topS p).2 ∧ (l.foldl topS p).2 ≤ (l.foldl topS p).1 ∧ (l.foldl topS p).1 ≤ 1000000000000000
  | [], p, h1, h2, h3, _ => ⟨h1, h2, h3⟩
  | x :: l, p, h1, h2, h3, h => by
    have hx := h x (List.mem_cons_self ..)
    unfold amOk at hx
    simp only [List.foldl_cons]
    exact topA_bd' l _ (by simp only [topS]; omega) (by simp only [topS]; omega) (by simp only [topS]; omega) (fun y hy => h y (List.mem_cons_of_mem _ hy))
theorem topA_bd {l : List Int} (h : AllAm l) : 0 ≤ (topA l).2 ∧ (topA l).2 ≤ (topA l).1 ∧ (topA l).1 ≤ 1000000000000000 := topA_bd' l (0, 0) (by simp) (by simp) (by simp) h
theorem topC_code (l : List Int) : topC l = 0 ∨ topC l = 103 ∨ topC l = 104 := by
  unfold topC
  repeat' split
  all_goals simp
theorem topC_bad {l : List Int} (h : ¬ AllAm l) : topC l = 103 ∧ topV l = 0 := by
  have e : topC l = 103 := if_neg h
  exact ⟨e, by unfold topV; rw [e]; rfl⟩
theorem topC_over {l : List Int} (h : AllAm l) (h2 : 1000000000000000 < (topA l).1 + (topA l).2) : topC l = 104 ∧ topV l = 0 := by
  have e : topC l = 104 := by unfold topC; rw [if_pos h, if_pos h2]
  exact ⟨e, by unfold topV; rw [e]; rfl⟩
theorem topC_fine {l : List Int} (h : AllAm l) (h2 : ¬ 1000000000000000 < (topA l).1 + (topA l).2) : topC l = 0 ∧ topV l = (topA l).1 + (topA l).2 := by
  have e : topC l = 0 := by unfold topC; rw [if_pos h, if_neg h2]
  exact ⟨e, by unfold topV; rw [e]; rfl⟩
theorem topV_bd (l : List Int) : 0 ≤ topV l ∧ topV l ≤ 1000000000000000 := by
  by_cases h : AllAm l
  · have := topA_bd h
    by_cases h2 : 1000000000000000 < (topA l).1 + (topA l).2
    · rw [(topC_over h h2).2]; omega
    · rw [(topC_fine h h2).2]; omega
  · rw [(topC_bad h).2]; omega
/-- the order of the list counts for nothing. -/
theorem topA_turn (l m : List Int) : topA (m ++ l) = topA (l ++ m) := by
  unfold topA
  refine List.Perm.foldl_eq' (List.perm_append_comm) (fun x _ y _ z => ?_) _
  simp only [topS, Prod.mk.injEq]
  omega
theorem allAm_turn (l m : List Int) : AllAm (m ++ l) ↔ AllAm (l ++ m) := by
  unfold AllAm
  simp only [List.mem_append]
  exact ⟨fun h x hx => h x hx.symm, fun h x hx => h x hx.symm⟩
theorem topC_turn (l m : List Int) : topC (m ++ l) = topC (l ++ m) := by
  unfold topC
  rw [topA_turn]
  by_cases h : AllAm (l ++ m)
  · rw [if_pos h, if_pos ((allAm_turn l m).2 h)]
  · rw [if_neg h, if_neg (fun e => h ((allAm_turn l m).1 e))]
theorem topV_turn (l m : List Int) : topV (m ++ l) = topV (l ++ m) := by
  unfold topV
  rw [topC_turn, topA_turn]
/-- none is more, no two are more. -/
theorem topA_most {l : List Int} (h : AllAm l) : ∀ k, k ≤ l.length → ∀ i, i < k → l.getD i 0 ≤ (topA (l.take k)).1 ∧ ∀ j, j < i → l.getD i 0 + l.getD j 0 ≤ (topA (l.take k)).1 + (topA (l.take k)).2
  | 0, _, i, hi => by omega
  | k + 1, hk, i, hi => by
    have ih := topA_most h k (by omega)
    have hb := topA_bd (h.take k)
    rw [topA_take l k (by omega)]
    simp only [topS]
    by_cases e : i = k
    · subst e
      have hx := h _ (getI22_mem (show i < l.length by omega))
      unfold amOk at hx
      refine ⟨by omega, fun j hj => ?_⟩
      have := (ih j hj).1
      omega
    · obtain ⟨q1, q2⟩ := ih i (by omega)
      refine ⟨by omega, fun j hj => ?_⟩
      have := q2 j hj
      have hx := h _ (getI22_mem (show k < l.length by omega))
      unfold amOk at hx
      omega
theorem topA_two {l : List Int} (h : AllAm l) {i j : Nat} (hi : i < l.length) (hj : j < l.length) (hne : i ≠ j) : l.getD i 0 + l.getD j 0 ≤ (topA l).1 + (topA l).2 := by
  have q := topA_most h l.length (Nat.le_refl _)
  rw [List.take_length] at q
  rcases Nat.lt_or_gt_of_ne hne with e | e
  · have := (q j hj).2 i e
    omega
  · exact (q i hi).2 j e
theorem topA_one {l : List Int} (h : AllAm l) {i : Nat} (hi : i < l.length) : l.getD i 0 ≤ (topA l).1 := by
  have q := topA_most h l.length (Nat.le_refl _)
  rw [List.take_length] at q
  exact (q i hi).1
/-- some one, or some two, are it. -/
theorem topA_some {l : List Int} (h : AllAm l) : ∀ k, 0 < k → k ≤ l.length → ∃ i, i < k ∧ (topA (l.take k)).1 = l.getD i 0 ∧ ((topA (l.take k)).2 = 0 ∨ ∃ j, j < k ∧ j ≠ i ∧ (topA (l.take k)).2 = l.getD j 0)
  | 0, h0, _ => by omega
  | k + 1, _, hk => by
    rw [topA_take l k (by omega)]
    have hx := h _ (getI22_mem (show k < l.length by omega))
    unfold amOk at hx
    have hb := topA_bd (h.take k)
    simp only [topS]
    by_cases h0 : k = 0
    · subst h0
      refine ⟨0, by omega, ?_, .inl ?_⟩
      · show max 0 (l.getD 0 0) = _
        omega
      · show max 0 (min 0 (l.getD 0 0)) = 0
        omega
    · obtain ⟨i, hi, e1, e2⟩ := topA_some h k (by omega) (by omega)
      by_cases hlt : (topA (l.take k)).1 < l.getD k 0
      · exact ⟨k, by omega, by omega, .inr ⟨i, by omega, by omega, by omega⟩⟩
      · refine ⟨i, by omega, by omega, ?_⟩
        by_cases hl2 : (topA (l.take k)).2 < l.getD k 0
        · exact .inr ⟨k, by omega, by omega, by omega⟩
        · rcases e2 with e2 | ⟨j, hj, hne, e2⟩
          · exact .inl (by omega)
          · exact .inr ⟨j, by omega, hne, by omega⟩
/-- where each is no more, neither are the two. -/
theorem topA_mono : ∀ (l m : List Int) (p q : Int × Int), l.length = m.length → (∀ k, k < l.length → l.getD k 0 ≤ m.getD k 0) → p.1 ≤ q.1 → p.2 ≤ q.2 → (l.foldl topS p).1 ≤ (m.foldl topS q).1 ∧ (l.foldl topS p).2 ≤ (m.foldl topS q).2
  | [], [], p, q, _, _, h1, h2 => ⟨h1, h2⟩
  | [], y :: m, p, q, h, _, _, _ => by simp at h
  | x :: l, [], p, q, h, _, _, _ => by simp at h
  | x :: l, y :: m, p, q, h, hk, h1, h2 => by
    have h0 : x ≤ y := hk 0 (by simp)
    simp only [List.foldl_cons]
    exact topA_mono l m _ _ (by simpa using h) (fun k hlt => hk (k + 1) (by simpa using hlt)) (by simp only [topS]; omega) (by simp only [topS]; omega)

/-! A scene's two greatest above needs. -/
def abvAt (T : LTab) (s : Int) (l : List Int) (i : Nat) : Int := max (getL T (s, (i : Int) + 1) - l.getD i 0) 0
def abvK (T : LTab) (s : Int) (l : List Int) (k : Nat) : List Int := (List.range k).map (abvAt T s l)
def abvL (T : LTab) (s : Int) (l : List Int) : List Int := abvK T s l l.length
theorem abvK_next (T : LTab) (s : Int) (l : List Int) (k : Nat) : abvK T s l (k + 1) = abvK T s l k ++ [abvAt T s l k] := by
  unfold abvK
  rw [List.range_succ, List.map_append]
  rfl
theorem abvK_len (T : LTab) (s : Int) (l : List Int) (k : Nat) : (abvK T s l k).length = k := by simp [abvK]
theorem abvK_at (T : LTab) (s : Int) (l : List Int) (k i : Nat) (h : i < k) : (abvK T s l k).getD i 0 = abvAt T s l i := by
  simp [abvK, List.getD_eq_getElem?_getD, h]
theorem abvAt_am {T : LTab} (h : LoT T) (s : Int) {l : List Int} {i : Nat} (hl : amOk (l.getD i 0)) : amOk (abvAt T s l i) := by
  have := h.get (s, (i : Int) + 1)
  unfold amOk at *
  unfold abvAt
  omega
theorem abvL_am {T : LTab} (h : LoT T) (s : Int) {l : List Int} (hl : AllAm l) : AllAm (abvL T s l) := by
  refine allAm_of fun k hk => ?_
  unfold abvL at hk ⊢
  rw [abvK_len] at hk
  rw [abvK_at _ _ _ _ _ hk]
  exact abvAt_am h s (hl _ (getI22_mem hk))
/-- the k first are reckoned, of n. -/
def abvN (T : LTab) (s : Int) (l : List Int) (k : Nat) : List Int := abvK T s l k ++ List.replicate (l.length - k) 0
theorem abvN_zero (T : LTab) (s : Int) (l : List Int) : abvN T s l 0 = List.replicate l.length 0 := by simp [abvN, abvK]
theorem abvN_len (T : LTab) (s : Int) (l : List Int) (k : Nat) (h : k ≤ l.length) : (abvN T s l k).length = l.length := by
  unfold abvN
  rw [List.length_append, abvK_len, List.length_replicate]
  omega
theorem abvN_set (T : LTab) (s : Int) (l : List Int) (k : Nat) (h : k < l.length) : (abvN T s l k).set k (abvAt T s l k) = abvN T s l (k + 1) := by
  unfold abvN
  rw [abvK_next, List.set_append_right _ _ (by rw [abvK_len]; exact Nat.le_refl _), abvK_len, Nat.sub_self]
  obtain ⟨d, hd⟩ : ∃ d, l.length - k = d + 1 := ⟨l.length - k - 1, by omega⟩
  rw [hd, show l.length - (k + 1) = d by omega, List.replicate_succ, List.set_cons_zero, List.append_assoc]
  rfl
theorem abvN_all (T : LTab) (s : Int) (l : List Int) : abvN T s l l.length = abvL T s l := by
  unfold abvN abvL
  rw [Nat.sub_self]
  simp
def scOk (s : Int) : Prop := 1 ≤ s ∧ s ≤ 16
instance (s : Int) : Decidable (scOk s) := by unfold scOk; infer_instance
def twoC (T : LTab) (s : Int) (l : List Int) : Int := if 32 < l.length then 105 else if ¬ scOk s then 103 else if ¬ AllAm l then 103 else topC (abvL T s l)
def twoV (T : LTab) (s : Int) (l : List Int) : Int := if twoC T s l = 0 then topV (abvL T s l) else 0
theorem two_many {T : LTab} {s : Int} {l : List Int} (h : 32 < l.length) : twoC T s l = 105 ∧ twoV T s l = 0 := by
  have e : twoC T s l = 105 := if_pos h
  exact ⟨e, by unfold twoV; rw [e]; rfl⟩
theorem two_scene {T : LTab} {s : Int} {l : List Int} (h : ¬ 32 < l.length) (h2 : ¬ scOk s) : twoC T s l = 103 ∧ twoV T s l = 0 := by
  have e : twoC T s l = 103 := by unfold twoC; rw [if_neg h, if_pos h2]
  exact ⟨e, by unfold twoV; rw [e]; rfl⟩
theorem two_bad {T : LTab} {s : Int} {l : List Int} (h : ¬ 32 < l.length) (h2 : scOk s) (h3 : ¬ AllAm l) : twoC T s l = 103 ∧ twoV T s l = 0 := by
  have e : twoC T s l = 103 := by unfold twoC; rw [if_neg h, if_neg (fun k => k h2), if_pos h3]
  exact ⟨e, by unfold twoV; rw [e]; rfl⟩
theorem two_top {T : LTab} {s : Int} {l : List Int} (h : ¬ 32 < l.length) (h2 : scOk s) (h3 : AllAm l) : twoC T s l = topC (abvL T s l) ∧ twoV T s l = topV (abvL T s l) := by
  have e : twoC T s l = topC (abvL T s l) := by unfold twoC; rw [if_neg h, if_neg (fun k => k h2), if_neg (fun k => k h3)]
  refine ⟨e, ?_⟩
  unfold twoV
  rw [e]
  unfold topV
  split <;> rfl
theorem twoC_code (T : LTab) (s : Int) (l : List Int) : twoC T s l = 0 ∨ twoC T s l = 103 ∨ twoC T s l = 104 ∨ twoC T s l = 105 := by
  unfold twoC
  have := topC_code (abvL T s l)
  repeat' split
  all_goals omega
theorem twoV_bd (T : LTab) (s : Int) (l : List Int) : 0 ≤ twoV T s l ∧ twoV T s l ≤ 1000000000000000 := by
  have := topV_bd (abvL T s l)
  unfold twoV
  split <;> omega

/-! The worst scene. -/
structure CvR where
  c : Int
  v : Int
  s : Int
def covS (T : LTab) (l : List Int) : Nat → CvR
  | 0 => ⟨0, 0, 1⟩
  | k + 1 => if (covS T l k).c ≠ 0 then covS T l k else if twoC T ((k : Int) + 1) l ≠ 0 then ⟨twoC T ((k : Int) + 1) l, 0, 0⟩ else if (covS T l k).v < twoV T ((k : Int) + 1) l then ⟨0, twoV T ((k : Int) + 1) l, (k : Int) + 1⟩ else covS T l k
def covR (T : LTab) (l : List Int) : CvR := covS T l 16
theorem covS_stop {T : LTab} {l : List Int} {k : Nat} (h : (covS T l k).c ≠ 0) : ∀ d, covS T l (k + d) = covS T l k
  | 0 => rfl
  | d + 1 => by
    rw [← Nat.add_assoc]
    simp only [covS]
    rw [covS_stop h d, if_pos h]
theorem covS_bad {T : LTab} {l : List Int} {k : Nat} (hk : k < 16) (h : (covS T l k).c = 0) (h2 : twoC T ((k : Int) + 1) l ≠ 0) : covR T l = ⟨twoC T ((k : Int) + 1) l, 0, 0⟩ := by
  have e : covS T l (k + 1) = ⟨twoC T ((k : Int) + 1) l, 0, 0⟩ := by
    simp only [covS]
    rw [if_neg (by omega), if_pos h2]
  have := covS_stop (T := T) (l := l) (k := k + 1) (by rw [e]; exact h2) (16 - (k + 1))
  rw [show k + 1 + (16 - (k + 1)) = 16 by omega, e] at this
  exact this
theorem covS_new {T : LTab} {l : List Int} {k : Nat} (h : (covS T l k).c = 0) (h2 : twoC T ((k : Int) + 1) l = 0) (h3 : (covS T l k).v < twoV T ((k : Int) + 1) l) : covS T l (k + 1) = ⟨0, twoV T ((k : Int) + 1) l, (k : Int) + 1⟩ := by
  simp only [covS]
  rw [if_neg (by omega), if_neg (by omega), if_pos h3]
theorem covS_old {T : LTab} {l : List Int} {k : Nat} (h : (covS T l k).c = 0) (h2 : twoC T ((k : Int) + 1) l = 0) (h3 : ¬ (covS T l k).v < twoV T ((k : Int) + 1) l) : covS T l (k + 1) = covS T l k := by
  simp only [covS]
  rw [if_neg (by omega), if_neg (by omega), if_neg h3]
theorem covS_bd (T : LTab) (l : List Int) : ∀ k, 0 ≤ (covS T l k).v ∧ (covS T l k).v ≤ 1000000000000000
  | 0 => by simp [covS]
  | k + 1 => by
    have := covS_bd T l k
    have := twoV_bd T ((k : Int) + 1) l
    simp only [covS]
    repeat' split
    all_goals (try simp only)
    all_goals omega
theorem covS_code (T : LTab) (l : List Int) : ∀ k, (covS T l k).c = 0 ∨ (covS T l k).c = 103 ∨ (covS T l k).c = 104 ∨ (covS T l k).c = 105
  | 0 => .inl rfl
  | k + 1 => by
    have h1 := covS_code T l k
    have h2 := twoC_code T ((k : Int) + 1) l
    simp only [covS]
    split
    · exact h1
    · split
      · exact h2
      · split
        · exact .inl rfl
        · exact h1
/-- where no scene has an error: the greatest, and whose it is. -/
theorem covS_fine {T : LTab} {l : List Int} (h : ∀ s, scOk s → twoC T s l = 0) : ∀ k : Nat, k ≤ 16 → (covS T l k).c = 0 ∧ (1 ≤ (covS T l k).s ∧ (covS T l k).s ≤ 16) ∧ (∀ j : Nat, j < k → twoV T ((j : Int) + 1) l ≤ (covS T l k).v) ∧ ((covS T l k).v = 0 ∨ (covS T l k).v = twoV T (covS T l k).s l)
  | 0, _ => ⟨rfl, by simp [covS], fun j hj => by omega, .inl rfl⟩
  | k + 1, hk => by
    obtain ⟨h1, h2, h3, h4⟩ := covS_fine h k (by omega)
    have hc := h ((k : Int) + 1) (by unfold scOk; omega)
    by_cases hv : (covS T l k).v < twoV T ((k : Int) + 1) l
    · rw [covS_new h1 hc hv]
      refine ⟨rfl, by simp only; omega, fun j hj => ?_, .inr rfl⟩
      by_cases e : j = k
      · subst e; exact Int.le_refl _
      · have := h3 j (by omega); simp only; omega
    · rw [covS_old h1 hc hv]
      refine ⟨h1, h2, fun j hj => ?_, h4⟩
      by_cases e : j = k
      · subst e; omega
      · exact h3 j (by omega)
theorem map_snoc22 (l : List Int) (x : Int) : (l ++ [x]).map (Value.int .i64) = l.map (Value.int .i64) ++ [.int .i64 x] := by simp
theorem abv_ways (T : LTab) (s : Int) (l : List Int) (i : Nat) : (getL T (s, (i : Int) + 1) - l.getD i 0 ≤ 0 ∧ abvAt T s l i = 0) ∨ (¬ getL T (s, (i : Int) + 1) - l.getD i 0 ≤ 0 ∧ abvAt T s l i = getL T (s, (i : Int) + 1) - l.getD i 0) := by
  unfold abvAt
  omega
end Go.Proofs.YtlanggdmdpjfbaaDoor
