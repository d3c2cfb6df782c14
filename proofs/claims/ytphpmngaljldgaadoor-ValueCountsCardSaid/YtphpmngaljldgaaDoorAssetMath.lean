/-
  Assets: five numbers each; a table with a place for each number; what is added, found, told.
-/
import Derived.Test.YtphpmngaljldgaaDoorRow
namespace Go.Proofs.YtphpmngaljldgaaDoor
open Go Go.RowKit
set_option linter.unusedVariables false

/-- an asset: its number, issuer, class, currency, end. -/
structure As where
  i : Int
  s : Int
  c : Int
  m : Int
  e : Int
theorem As.ext' {a b : As} (h1 : a.i = b.i) (h2 : a.s = b.s) (h3 : a.c = b.c) (h4 : a.m = b.m) (h5 : a.e = b.e) : a = b := by
  cases a; cases b; simp_all
def asZ : As := ⟨0, 0, 0, 0, 0⟩
def asV (a : As) : List Value := [.int .i64 a.i, .int .i64 a.s, .int .i64 a.c, .int .i64 a.m, .int .i64 a.e]
theorem asV_len (a : As) : (asV a).length = 5 := rfl
theorem asV_one (a : As) : ∀ u ∈ asV a, u.oneCell' = true := fun u hu => by
  simp only [asV, List.mem_cons, List.not_mem_nil, or_false] at hu
  rcases hu with rfl | rfl | rfl | rfl | rfl <;> rfl
abbrev asA (a : As) : Value := .agg #[.int .i64 a.i, .int .i64 a.s, .int .i64 a.c, .int .i64 a.m, .int .i64 a.e]
/-- may it be? -/
def AsIn (a : As) : Prop := (1 ≤ a.i ∧ a.i ≤ 32) ∧ (0 ≤ a.s ∧ a.s ≤ 32) ∧ (1 ≤ a.c ∧ a.c ≤ 6) ∧ (1 ≤ a.m ∧ a.m ≤ 6) ∧ (0 ≤ a.e ∧ a.e ≤ 40000)
def AsOk (a : As) : Prop := AsIn a ∧ (a.c = 1 → a.s = 0 ∧ a.e = 0)
instance (a : As) : Decidable (AsIn a) := by unfold AsIn; infer_instance
instance (a : As) : Decidable (AsOk a) := by unfold AsOk; infer_instance
def vC (a : As) : Int := if AsOk a then 0 else 103

/-- a table: 33 places, each one empty (all zero) or with the asset of its number. -/
structure Tab (t : List As) : Prop where
  len : t.length = 33
  at_ : ∀ k, k < 33 → t.getD k asZ = asZ ∨ ((t.getD k asZ).i = (k : Int) ∧ 1 ≤ k)
def tabZ : List As := List.replicate 33 asZ
theorem tabZ_tab : Tab tabZ := ⟨by simp [tabZ], fun k hk => .inl (by rw [tabZ, List.getD_eq_getElem?_getD, List.getElem?_replicate, if_pos hk]; rfl)⟩
def there (t : List As) (i : Int) : Prop := (t.getD i.toNat asZ).i ≠ 0
instance (t : List As) (i : Int) : Decidable (there t i) := by unfold there; infer_instance
/-- the table behind an asset that may be. -/
def putA (t : List As) (a : As) : List As := t.set a.i.toNat a
def addC (t : List As) (a : As) : Int := if AsOk a then (if there t a.i then 107 else 0) else 103
def nextT (t : List As) (a : As) : List As := if addC t a = 0 then putA t a else t
theorem getA_set (t : List As) (k j : Nat) (a : As) (hk : k < t.length) : (t.set k a).getD j asZ = if k = j then a else t.getD j asZ := by
  rw [List.getD_eq_getElem?_getD, List.getElem?_set]
  by_cases h : k = j
  · subst h; simp [hk]
  · simp [h, List.getD_eq_getElem?_getD]
theorem Tab.put {t : List As} {a : As} (h : Tab t) (ha : 1 ≤ a.i ∧ a.i ≤ 32) : Tab (putA t a) := by
  refine ⟨by simp [putA, h.len], fun k hk => ?_⟩
  unfold putA
  rw [getA_set _ _ _ _ (by rw [h.len]; omega)]
  by_cases e : a.i.toNat = k
  · rw [if_pos e]; right; omega
  · rw [if_neg e]; exact h.at_ k hk
theorem Tab.add {t : List As} {a : As} (h : Tab t) : Tab (nextT t a) := by
  unfold nextT
  by_cases e : addC t a = 0
  · rw [if_pos e]
    refine h.put ?_
    unfold addC at e
    by_cases ho : AsOk a
    · exact ho.1.1
    · rw [if_neg ho] at e; omega
  · rw [if_neg e]; exact h
/-- all that are there. -/
def allA (t : List As) : List As := t.filter (fun a => a.i != 0)
theorem allA_zero : allA tabZ = [] := by decide
theorem allA_app (s t : List As) : allA (s ++ t) = allA s ++ allA t := by simp [allA]
theorem allA_next (t : List As) (k : Nat) (hk : k < t.length) : allA (t.take (k + 1)) = allA (t.take k) ++ (if (t.getD k asZ).i = 0 then [] else [t.getD k asZ]) := by
  rw [List.take_add_one, List.getElem?_eq_getElem hk, allA_app, List.getD_eq_getElem?_getD, List.getElem?_eq_getElem hk]
  congr 1
  by_cases h : t[k].i = 0 <;> simp [allA, h]
theorem allA_le (t : List As) : (allA t).length ≤ t.length := List.length_filter_le _ _

/-- the table parted at a place. -/
theorem part_at (t : List As) (k : Nat) (hk : k < t.length) : t = t.take k ++ t.getD k asZ :: t.drop (k + 1) := by
  rw [List.getD_eq_getElem?_getD, List.getElem?_eq_getElem hk]
  simp
theorem mem_getD {t : List As} {a : As} (h : a ∈ t) : ∃ k, k < t.length ∧ t.getD k asZ = a := by
  obtain ⟨k, hk, e⟩ := List.getElem_of_mem h
  exact ⟨k, hk, by rw [List.getD_eq_getElem?_getD, List.getElem?_eq_getElem hk]; exact e⟩
theorem Tab.low {t : List As} (h : Tab t) (k : Nat) {a : As} (ha : a ∈ allA (t.take k)) : 1 ≤ a.i ∧ a.i < (k : Int) ∧ there t a.i ∧ t.getD a.i.toNat asZ = a := by
  obtain ⟨hm, hn⟩ := List.mem_filter.1 ha
  obtain ⟨j, hj, e⟩ := mem_getD hm
  have hj2 : j < k ∧ j < t.length := by simp at hj; omega
  have e2 : t.getD j asZ = a := by
    rw [← e, List.getD_eq_getElem?_getD, List.getD_eq_getElem?_getD, List.getElem?_take, if_pos hj2.1]
  have hn2 : a.i ≠ 0 := by simpa using hn
  rcases h.at_ j (by have := h.len; omega) with q | ⟨q1, q2⟩
  · rw [e2] at q; rw [q] at hn2; exact absurd rfl hn2
  · rw [e2] at q1
    have hji : a.i.toNat = j := by omega
    exact ⟨by omega, by omega, by unfold there; rw [hji, e2]; exact hn2, by rw [hji]; exact e2⟩
theorem Tab.high {t : List As} (h : Tab t) (k : Nat) {a : As} (ha : a ∈ allA (t.drop k)) : (k : Int) ≤ a.i ∧ a.i ≤ 32 ∧ there t a.i ∧ t.getD a.i.toNat asZ = a := by
  obtain ⟨hm, hn⟩ := List.mem_filter.1 ha
  obtain ⟨j, hj, e⟩ := mem_getD hm
  have hj2 : k + j < t.length := by simp at hj; omega
  have e2 : t.getD (k + j) asZ = a := by
    rw [← e, List.getD_eq_getElem?_getD, List.getD_eq_getElem?_getD, List.getElem?_drop]
  have hn2 : a.i ≠ 0 := by simpa using hn
  have hl := h.len
  rcases h.at_ (k + j) (by omega) with q | ⟨q1, q2⟩
  · rw [e2] at q; rw [q] at hn2; exact absurd rfl hn2
  · rw [e2] at q1
    have hji : a.i.toNat = k + j := by omega
    exact ⟨by omega, by omega, by unfold there; rw [hji, e2]; exact hn2, by rw [hji]; exact e2⟩
theorem Tab.all {t : List As} (h : Tab t) {a : As} (ha : a ∈ allA t) : 1 ≤ a.i ∧ a.i ≤ 32 ∧ there t a.i ∧ t.getD a.i.toNat asZ = a := by
  have h1 := h.low 33 (a := a) (by rw [List.take_of_length_le (by rw [h.len]; exact Nat.le_refl _)]; exact ha)
  exact ⟨h1.1, by omega, h1.2.2.1, h1.2.2.2⟩
theorem Tab.of_there {t : List As} (h : Tab t) {i : Int} (hi : 1 ≤ i) (hi2 : i ≤ 32) (ht : there t i) : (t.getD i.toNat asZ).i = i ∧ t.getD i.toNat asZ ∈ allA t := by
  unfold there at ht
  have hl := h.len
  have hk : i.toNat < t.length := by omega
  rcases h.at_ i.toNat (by omega) with q | ⟨q1, q2⟩
  · rw [q] at ht; exact absurd rfl ht
  · refine ⟨by omega, List.mem_filter.2 ⟨?_, by simpa using ht⟩⟩
    rw [List.getD_eq_getElem?_getD, List.getElem?_eq_getElem hk]
    exact List.getElem_mem _

/-! What the document's list does. -/
/-- the place at which an asset comes in: all ahead are less, it ends the list or what stands there is not. -/
theorem Tab.insert {t : List As} {a : As} (h : Tab t) (ha : 1 ≤ a.i ∧ a.i ≤ 32) (hn : ¬ there t a.i) {k : Nat} (hk : k ≤ (allA t).length) (hlow : ∀ j, j < k → ((allA t).getD j asZ).i < a.i) (hend : k < (allA t).length → ¬ ((allA t).getD k asZ).i < a.i) :
    (allA t).take k ++ [a] ++ (allA t).drop k = allA (putA t a) := by
  have hl := h.len
  have hkt : a.i.toNat < t.length := by omega
  have e1 : allA t = allA (t.take a.i.toNat) ++ allA (t.drop a.i.toNat) := by rw [← allA_app, List.take_append_drop]
  have hP : ∀ x ∈ allA (t.take a.i.toNat), x.i < a.i := fun x hx => by have := (h.low a.i.toNat hx).2.1; omega
  have hQ : ∀ x ∈ allA (t.drop a.i.toNat), a.i ≤ x.i := fun x hx => by have := (h.high a.i.toNat hx).1; omega
  have eQ : allA (t.drop a.i.toNat) = allA (t.drop (a.i.toNat + 1)) := by
    have : t.drop a.i.toNat = t.getD a.i.toNat asZ :: t.drop (a.i.toNat + 1) := by
      rw [List.getD_eq_getElem?_getD, List.getElem?_eq_getElem hkt]; simp
    rw [this]
    unfold there at hn
    have hz : (t.getD a.i.toNat asZ).i = 0 := by omega
    unfold allA
    rw [List.filter_cons_of_neg (by rw [hz]; decide)]
  have eN : allA (putA t a) = allA (t.take a.i.toNat) ++ a :: allA (t.drop (a.i.toNat + 1)) := by
    unfold putA
    rw [List.set_eq_take_append_cons_drop, if_pos hkt, allA_app]
    congr 1
    unfold allA
    rw [List.filter_cons_of_pos]
    have : a.i ≠ 0 := by omega
    simpa using this
  generalize allA (t.take a.i.toNat) = P at *
  generalize allA (t.drop a.i.toNat) = Q at *
  have hkP : k = P.length := by
    rcases Nat.lt_trichotomy k P.length with q | q | q
    · have q1 := hend (by rw [e1, List.length_append]; omega)
      rw [e1, List.getD_eq_getElem?_getD, List.getElem?_append_left q, List.getElem?_eq_getElem q] at q1
      exact absurd (hP _ (List.getElem_mem q)) q1
    · exact q
    · have q1 := hlow P.length q
      have q2 : 0 < Q.length := by rw [e1, List.length_append] at hk; omega
      rw [e1, List.getD_eq_getElem?_getD, List.getElem?_append_right (Nat.le_refl _), Nat.sub_self, List.getElem?_eq_getElem q2] at q1
      have := hQ _ (List.getElem_mem q2)
      simp only [Option.getD_some] at q1
      omega
  subst hkP
  rw [e1, eN, List.take_left, List.drop_left, eQ]
  simp
/-- what is looked for by its number. -/
def Found (l : List As) (i r : Int) : Prop := (r = -1 ∧ ∀ j, j < l.length → (l.getD j asZ).i ≠ i) ∨ (∃ k : Nat, r = (k : Int) ∧ k < l.length ∧ (l.getD k asZ).i = i)
theorem as_mem {l : List As} {k : Nat} (hk : k < l.length) : l.getD k asZ ∈ l := by
  rw [List.getD_eq_getElem?_getD, List.getElem?_eq_getElem hk]
  exact List.getElem_mem hk
theorem Tab.found {t : List As} (h : Tab t) {i r : Int} (hf : Found (allA t) i r) :
    (r = -1 ∧ ¬ (1 ≤ i ∧ i ≤ 32 ∧ there t i)) ∨ (∃ k : Nat, r = (k : Int) ∧ k < (allA t).length ∧ 1 ≤ i ∧ i ≤ 32 ∧ there t i ∧ (allA t).getD k asZ = t.getD i.toNat asZ) := by
  rcases hf with ⟨rfl, hn⟩ | ⟨k, rfl, hk, e⟩
  · left
    refine ⟨rfl, fun ⟨h1, h2, h3⟩ => ?_⟩
    obtain ⟨q1, q2⟩ := h.of_there h1 h2 h3
    obtain ⟨j, hj, e⟩ := mem_getD q2
    exact hn j hj (by rw [e]; exact q1)
  · right
    have hm := h.all (as_mem hk)
    rw [e] at hm
    exact ⟨k, rfl, hk, hm.1, hm.2.1, hm.2.2.1, hm.2.2.2.symm⟩
theorem allA_32 {t : List As} (h : Tab t) : (allA t).length ≤ 32 := by
  have h0 : (t.getD 0 asZ) = asZ := by
    rcases h.at_ 0 (by decide) with q | ⟨_, q⟩
    · exact q
    · omega
  have hl := h.len
  have e : allA t = allA (t.drop 1) := by
    have : t = t.getD 0 asZ :: t.drop 1 := by
      rw [List.getD_eq_getElem?_getD, List.getElem?_eq_getElem (by omega)]
      cases t with
      | nil => simp at hl
      | cons a r => simp
    rw [this, h0]
    rfl
  rw [e]
  have := allA_le (t.drop 1)
  rw [List.length_drop] at this
  omega
/-- the bounds of what may come in. -/
def AsBig (a : As) : Prop := (-9223372036854775808 ≤ a.i ∧ a.i ≤ 9223372036854775807) ∧ (-9223372036854775808 ≤ a.s ∧ a.s ≤ 9223372036854775807) ∧ (-9223372036854775808 ≤ a.c ∧ a.c ≤ 9223372036854775807) ∧ (-9223372036854775808 ≤ a.m ∧ a.m ≤ 9223372036854775807) ∧ (-9223372036854775808 ≤ a.e ∧ a.e ≤ 9223372036854775807)
end Go.Proofs.YtphpmngaljldgaaDoor
