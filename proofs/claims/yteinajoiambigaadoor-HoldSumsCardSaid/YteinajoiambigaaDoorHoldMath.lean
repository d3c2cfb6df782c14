/-
  Holdings: a spot is a member and an asset; a table of how much is at each spot; what is put, what is taken; sums; the lists in their order.
-/
import Derived.Test.YteinajoiambigaaDoorKeyTab2
namespace Go.Proofs.YteinajoiambigaaDoor
open Go Go.RowKit
set_option linter.unusedVariables false

abbrev SpotT := Int × Int
/-- any numbers that an int holds. -/
def spIn (s : SpotT) : Prop := (-9223372036854775808 ≤ s.1 ∧ s.1 ≤ 9223372036854775807) ∧ (-9223372036854775808 ≤ s.2 ∧ s.2 ≤ 9223372036854775807)
def spOk (s : SpotT) : Prop := (1 ≤ s.1 ∧ s.1 ≤ 32) ∧ (1 ≤ s.2 ∧ s.2 ≤ 32)
def qtOk (q : Int) : Prop := 1 ≤ q ∧ q ≤ 1000000000000
instance (s : SpotT) : Decidable (spOk s) := by unfold spOk; infer_instance
instance (q : Int) : Decidable (qtOk q) := by unfold qtOk; infer_instance
theorem spOk.isIn {s : SpotT} (h : spOk s) : spIn s := by unfold spOk at h; unfold spIn; omega
abbrev HTab := SpotT → Option Int
def getQ (T : HTab) (s : SpotT) : Int := (T s).getD 0
def noH : HTab := fun _ => none
/-- nothing is there but spots that may be, with quantities that may be. -/
def HoT (T : HTab) : Prop := ∀ s x, T s = some x → spOk s ∧ qtOk x
theorem noH_ho : HoT noH := fun s x h => by cases h
theorem HoT.upd {T : HTab} (h : HoT T) {s : SpotT} {x : Int} (hs : spOk s) (hx : qtOk x) : HoT (updK T s x) := fun s' x' e => by
  unfold updK at e
  split at e
  · rename_i q; subst q
    obtain rfl := Option.some.inj e
    exact ⟨hs, hx⟩
  · exact h _ _ e
theorem HoT.drop {T : HTab} (h : HoT T) (s : SpotT) : HoT (dropK T s) := fun s' x' e => by
  unfold dropK at e
  split at e
  · cases e
  · exact h _ _ e
theorem HoT.get {T : HTab} (h : HoT T) (s : SpotT) : 0 ≤ getQ T s ∧ getQ T s ≤ 1000000000000 := by
  unfold getQ
  cases e : T s with
  | none => simp
  | some x => have := (h s x e).2; unfold qtOk at this; simp only [Option.getD_some]; omega
theorem HoT.out {T : HTab} (h : HoT T) {s : SpotT} (hs : ¬ spOk s) : T s = none := by
  cases e : T s with
  | none => rfl
  | some x => exact absurd (h s x e).1 hs
theorem getQ_upd (T : HTab) (s t : SpotT) (x : Int) : getQ (updK T s x) t = if t = s then x else getQ T t := by
  unfold getQ updK
  split <;> rfl
theorem getQ_drop (T : HTab) (s t : SpotT) : getQ (dropK T s) t = if t = s then 0 else getQ T t := by
  unfold getQ dropK
  split <;> rfl
theorem getQ_no (s : SpotT) : getQ noH s = 0 := rfl

/-! Put, Take. -/
def putHC (T : HTab) (s : SpotT) (q : Int) : Int := if spOk s ∧ qtOk q then (if 1000000000000 - getQ T s < q then 104 else 0) else 103
def putHT (T : HTab) (s : SpotT) (q : Int) : HTab := if spOk s ∧ qtOk q ∧ ¬ 1000000000000 - getQ T s < q then updK T s (getQ T s + q) else T
def takHC (T : HTab) (s : SpotT) (q : Int) : Int := if spOk s ∧ qtOk q then (if getQ T s - q < 0 then 113 else 0) else 103
def takHT (T : HTab) (s : SpotT) (q : Int) : HTab := if spOk s ∧ qtOk q ∧ ¬ getQ T s - q < 0 then (if getQ T s - q = 0 then dropK T s else updK T s (getQ T s - q)) else T
theorem HoT.put {T : HTab} (h : HoT T) (s : SpotT) (q : Int) : HoT (putHT T s q) := by
  have := h.get s
  unfold putHT
  split
  · rename_i e
    refine h.upd e.1 ?_
    unfold qtOk at *
    omega
  · exact h
theorem HoT.take {T : HTab} (h : HoT T) (s : SpotT) (q : Int) : HoT (takHT T s q) := by
  have := h.get s
  unfold takHT
  split
  · rename_i e
    split
    · exact h.drop s
    · refine h.upd e.1 ?_
      unfold qtOk at *
      omega
  · exact h
theorem putHC_code (T : HTab) (s : SpotT) (q : Int) : putHC T s q = 0 ∨ putHC T s q = 103 ∨ putHC T s q = 104 := by
  unfold putHC
  repeat' split
  all_goals simp
theorem takHC_code (T : HTab) (s : SpotT) (q : Int) : takHC T s q = 0 ∨ takHC T s q = 103 ∨ takHC T s q = 113 := by
  unfold takHC
  repeat' split
  all_goals simp
/-- what is done by Put. -/
theorem put_done {T : HTab} {s : SpotT} {q : Int} (h : putHC T s q = 0) : spOk s ∧ qtOk q ∧ putHT T s q = updK T s (getQ T s + q) ∧ getQ T s + q ≤ 1000000000000 := by
  unfold putHC at h
  split at h
  · rename_i e
    split at h
    · omega
    · rename_i e2
      refine ⟨e.1, e.2, ?_, by omega⟩
      unfold putHT
      rw [if_pos ⟨e.1, e.2, e2⟩]
  · omega
theorem put_not {T : HTab} {s : SpotT} {q : Int} (h : putHC T s q ≠ 0) : putHT T s q = T := by
  unfold putHC at h
  unfold putHT
  rw [if_neg]
  intro e
  rw [if_pos ⟨e.1, e.2.1⟩, if_neg e.2.2] at h
  exact h rfl
theorem take_done {T : HTab} {s : SpotT} {q : Int} (h : takHC T s q = 0) : spOk s ∧ qtOk q ∧ q ≤ getQ T s ∧ (∀ t, getQ (takHT T s q) t = if t = s then getQ T s - q else getQ T t) := by
  unfold takHC at h
  split at h
  · rename_i e
    split at h
    · omega
    · rename_i e2
      refine ⟨e.1, e.2, by omega, fun t => ?_⟩
      unfold takHT
      rw [if_pos ⟨e.1, e.2, e2⟩]
      split
      · rename_i e3
        rw [getQ_drop, e3]
      · rw [getQ_upd]
  · omega
theorem take_not {T : HTab} {s : SpotT} {q : Int} (h : takHC T s q ≠ 0) : takHT T s q = T := by
  unfold takHC at h
  unfold takHT
  rw [if_neg]
  intro e
  rw [if_pos ⟨e.1, e.2.1⟩, if_neg e.2.2] at h
  exact h rfl

/-! The sum of an asset. -/
def sumHK (T : HTab) (a : Int) : Nat → Int
  | 0 => 0
  | k + 1 => sumHK T a k + getQ T ((k : Int) + 1, a)
def sumH (T : HTab) (a : Int) : Int := sumHK T a 32
theorem sumHK_bd {T : HTab} (h : HoT T) (a : Int) : ∀ k, 0 ≤ sumHK T a k ∧ sumHK T a k ≤ (k : Int) * 1000000000000
  | 0 => by simp [sumHK]
  | k + 1 => by
    have := sumHK_bd h a k
    have := h.get ((k : Int) + 1, a)
    simp only [sumHK]
    omega
theorem sumH_bd {T : HTab} (h : HoT T) (a : Int) : 0 ≤ sumH T a ∧ sumH T a ≤ 32000000000000 := by
  have := sumHK_bd h a 32
  unfold sumH
  omega
/-- one spot alone has turned. -/
theorem sumHK_one {T T' : HTab} {m b v : Int} (h : ∀ t, getQ T' t = if t = (m, b) then v else getQ T t) (a : Int) : ∀ k : Nat, sumHK T' a k = sumHK T a k + (if a = b ∧ 1 ≤ m ∧ m ≤ (k : Int) then v - getQ T (m, b) else 0)
  | 0 => by
    rw [if_neg (by omega)]
    rfl
  | k + 1 => by
    have ih := sumHK_one h a k
    simp only [sumHK]
    rw [ih, h]
    by_cases e : ((k : Int) + 1, a) = (m, b)
    · rw [if_pos e]
      simp only [Prod.mk.injEq] at e
      obtain ⟨rfl, rfl⟩ := e
      rw [if_neg (by omega), if_pos (by omega)]
      omega
    · rw [if_neg e]
      simp only [Prod.mk.injEq] at e
      by_cases e2 : a = b ∧ 1 ≤ m ∧ m ≤ (k : Int)
      · rw [if_pos e2, if_pos (by omega)]
        omega
      · rw [if_neg e2, if_neg (by omega)]
        omega
theorem sumH_put {T : HTab} {s : SpotT} {q : Int} (h : putHC T s q = 0) (a : Int) : sumH (putHT T s q) a = sumH T a + (if s.2 = a then q else 0) := by
  obtain ⟨h1, h2, h3, h4⟩ := put_done h
  obtain ⟨m, b⟩ := s
  unfold spOk at h1
  simp only at h1
  unfold sumH
  rw [sumHK_one (T := T) (m := m) (b := b) (v := getQ T (m, b) + q) (fun t => by rw [h3, getQ_upd]) a 32]
  by_cases e : b = a
  · rw [if_pos (by omega), if_pos e]; omega
  · rw [if_neg (by omega), if_neg e]
theorem sumH_take {T : HTab} {s : SpotT} {q : Int} (h : takHC T s q = 0) (a : Int) : sumH (takHT T s q) a = sumH T a + (if s.2 = a then -q else 0) := by
  obtain ⟨h1, h2, h3, h4⟩ := take_done h
  obtain ⟨m, b⟩ := s
  unfold spOk at h1
  simp only at h1
  unfold sumH
  rw [sumHK_one (T := T) (m := m) (b := b) (v := getQ T (m, b) - q) h4 a 32]
  by_cases e : b = a
  · rw [if_pos (by omega), if_pos e]; omega
  · rw [if_neg (by omega), if_neg e]
theorem sumHK_no (a : Int) : ∀ k, sumHK noH a k = 0
  | 0 => rfl
  | k + 1 => by simp only [sumHK]; rw [sumHK_no a k]; rfl

/-! The lists. -/
abbrev HolT := SpotT × Int
def ofHK (T : HTab) (m : Int) : Nat → List HolT
  | 0 => []
  | k + 1 => ofHK T m k ++ (if getQ T (m, (k : Int) + 1) = 0 then [] else [((m, (k : Int) + 1), getQ T (m, (k : Int) + 1))])
def ofH (T : HTab) (m : Int) : List HolT := ofHK T m 32
def allHK (T : HTab) : Nat → List HolT
  | 0 => []
  | k + 1 => allHK T k ++ ofH T ((k : Int) + 1)
def allH (T : HTab) : List HolT := allHK T 32
theorem ofHK_le (T : HTab) (m : Int) : ∀ k, (ofHK T m k).length ≤ k
  | 0 => Nat.le_refl _
  | k + 1 => by
    have := ofHK_le T m k
    simp only [ofHK]
    split
    · simp; omega
    · simp; omega
theorem ofH_le (T : HTab) (m : Int) : (ofH T m).length ≤ 32 := ofHK_le T m 32
theorem allHK_le (T : HTab) : ∀ k, (allHK T k).length ≤ k * 32
  | 0 => Nat.le_refl _
  | k + 1 => by
    have := allHK_le T k
    have := ofH_le T ((k : Int) + 1)
    simp only [allHK, List.length_append]
    omega
theorem allH_le (T : HTab) : (allH T).length ≤ 1024 := allHK_le T 32
theorem ofHK_pos {T : HTab} (h : HoT T) (m : Int) : ∀ k, ∀ x ∈ ofHK T m k, qtOk x.2
  | 0, x, hx => by cases hx
  | k + 1, x, hx => by
    simp only [ofHK] at hx
    rcases List.mem_append.1 hx with hx | hx
    · exact ofHK_pos h m k x hx
    · split at hx
      · cases hx
      · rename_i e
        obtain rfl := List.mem_singleton.1 hx
        have := h.get (m, (k : Int) + 1)
        unfold qtOk
        omega
theorem allHK_pos {T : HTab} (h : HoT T) : ∀ k, ∀ x ∈ allHK T k, qtOk x.2
  | 0, x, hx => by cases hx
  | k + 1, x, hx => by
    simp only [allHK] at hx
    rcases List.mem_append.1 hx with hx | hx
    · exact allHK_pos h k x hx
    · exact ofHK_pos h _ 32 x hx
theorem allH_pos {T : HTab} (h : HoT T) : ∀ x ∈ allH T, qtOk x.2 := allHK_pos h 32
/-- what a list has of an asset. -/
def partH (a : Int) : List HolT → Int
  | [] => 0
  | x :: l => (if x.1.2 = a then x.2 else 0) + partH a l
theorem partH_append (a : Int) : ∀ l l' : List HolT, partH a (l ++ l') = partH a l + partH a l'
  | [], l' => by simp [partH]
  | x :: l, l' => by simp only [List.cons_append, partH]; rw [partH_append a l l']; omega
theorem partH_bd (a : Int) : ∀ l : List HolT, (∀ x ∈ l, qtOk x.2) → 0 ≤ partH a l ∧ partH a l ≤ (l.length : Int) * 1000000000000
  | [], _ => by simp [partH]
  | x :: l, h => by
    have h1 := h x (List.mem_cons_self ..)
    have h2 := partH_bd a l (fun y hy => h y (List.mem_cons_of_mem _ hy))
    unfold qtOk at h1
    simp only [partH, List.length_cons]
    split <;> omega
theorem partH_of (T : HTab) (a m : Int) : ∀ k : Nat, partH a (ofHK T m k) = if 1 ≤ a ∧ a ≤ (k : Int) then getQ T (m, a) else 0
  | 0 => by
    rw [if_neg (by omega)]
    rfl
  | k + 1 => by
    have ih := partH_of T a m k
    simp only [ofHK]
    rw [partH_append, ih]
    by_cases e : a = (k : Int) + 1
    · subst e
      rw [if_neg (by omega : ¬ (1 ≤ (k : Int) + 1 ∧ (k : Int) + 1 ≤ (k : Int))), if_pos (by omega : 1 ≤ (k : Int) + 1 ∧ (k : Int) + 1 ≤ ((k + 1 : Nat) : Int))]
      by_cases e2 : getQ T (m, (k : Int) + 1) = 0
      · rw [if_pos e2, e2]
        rfl
      · rw [if_neg e2]
        simp [partH]
    · have e3 : partH a (if getQ T (m, (k : Int) + 1) = 0 then [] else [((m, (k : Int) + 1), getQ T (m, (k : Int) + 1))]) = 0 := by
        by_cases e2 : getQ T (m, (k : Int) + 1) = 0
        · rw [if_pos e2]
          rfl
        · rw [if_neg e2]
          simp only [partH]
          rw [if_neg (by omega)]
          rfl
      rw [e3]
      by_cases e4 : 1 ≤ a ∧ a ≤ (k : Int)
      · rw [if_pos e4, if_pos (by omega)]
        omega
      · rw [if_neg e4, if_neg (by omega)]
        rfl
theorem partH_all (T : HTab) {a : Int} (h1 : 1 ≤ a) (h2 : a ≤ 32) : ∀ k, partH a (allHK T k) = sumHK T a k
  | 0 => rfl
  | k + 1 => by
    simp only [allHK, sumHK]
    rw [partH_append, partH_all T h1 h2 k]
    unfold ofH
    rw [partH_of, if_pos (by omega)]
theorem partH_take (a : Int) (l : List HolT) (k : Nat) (hk : k < l.length) : partH a (l.take (k + 1)) = partH a (l.take k) + (if (l.getD k ((0, 0), 0)).1.2 = a then (l.getD k ((0, 0), 0)).2 else 0) := by
  rw [List.take_add_one, partH_append, List.getElem?_eq_getElem hk, List.getD_eq_getElem?_getD, List.getElem?_eq_getElem hk]
  simp [partH]

/-! One spot alone. -/
theorem ofHK_one {m b x : Int} (hx : x ≠ 0) (m' : Int) : ∀ k : Nat, ofHK (updK noH (m, b) x) m' k = if m' = m ∧ 1 ≤ b ∧ b ≤ (k : Int) then [((m, b), x)] else []
  | 0 => by
    rw [if_neg (by omega)]
    rfl
  | k + 1 => by
    have ih := ofHK_one (b := b) (m := m) hx m' k
    simp only [ofHK]
    rw [ih, getQ_upd]
    by_cases e : (m', (k : Int) + 1) = (m, b)
    · rw [if_pos e, if_neg hx]
      simp only [Prod.mk.injEq] at e
      obtain ⟨rfl, rfl⟩ := e
      rw [if_neg (by omega), if_pos (by omega)]
      rfl
    · rw [if_neg e, getQ_no, if_pos rfl]
      simp only [Prod.mk.injEq] at e
      by_cases e2 : m' = m ∧ 1 ≤ b ∧ b ≤ (k : Int)
      · rw [if_pos e2, if_pos (by omega)]
        rfl
      · rw [if_neg e2, if_neg (by omega)]
        rfl
theorem allHK_one {m b x : Int} (hx : x ≠ 0) (hb : 1 ≤ b ∧ b ≤ 32) : ∀ k : Nat, allHK (updK noH (m, b) x) k = if 1 ≤ m ∧ m ≤ (k : Int) then [((m, b), x)] else []
  | 0 => by
    rw [if_neg (by omega)]
    rfl
  | k + 1 => by
    have ih := allHK_one (m := m) hx hb k
    simp only [allHK]
    unfold ofH
    rw [ih, ofHK_one hx]
    by_cases e : (k : Int) + 1 = m
    · subst e
      rw [if_neg (by omega), if_pos (by omega), if_pos (by omega)]
      rfl
    · rw [if_neg (by omega : ¬ ((k : Int) + 1 = m ∧ 1 ≤ b ∧ b ≤ ((32 : Nat) : Int)))]
      by_cases e2 : 1 ≤ m ∧ m ≤ (k : Int)
      · rw [if_pos e2, if_pos (by omega)]
        rfl
      · rw [if_neg e2, if_neg (by omega)]
        rfl
theorem allH_one {s : SpotT} {x : Int} (hs : spOk s) (hx : x ≠ 0) : (allH (updK noH s x)).length = 1 := by
  obtain ⟨m, b⟩ := s
  unfold spOk at hs
  simp only at hs
  unfold allH
  rw [allHK_one hx hs.2, if_pos (by omega)]
  rfl
theorem ofHK_none (m : Int) : ∀ k, ofHK noH m k = []
  | 0 => rfl
  | k + 1 => by
    simp only [ofHK]
    rw [ofHK_none m k, getQ_no, if_pos rfl]
    rfl
theorem allHK_none : ∀ k, allHK noH k = []
  | 0 => rfl
  | k + 1 => by
    simp only [allHK]
    rw [allHK_none k]
    unfold ofH
    rw [ofHK_none]
    rfl
theorem allH_none : allH noH = [] := allHK_none 32
theorem ofH_none (m : Int) : ofH noH m = [] := ofHK_none m 32
theorem drop_one (s : SpotT) (x : Int) : dropK (updK noH s x) s = noH := by
  funext t
  unfold dropK updK noH
  split <;> rfl
theorem upd_upd (T : HTab) (s : SpotT) (x y : Int) : updK (updK T s x) s y = updK T s y := by
  funext t
  unfold updK
  split <;> rfl
end Go.Proofs.YteinajoiambigaaDoor
