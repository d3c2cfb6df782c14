/-
  Cuts: a step is a class and a bucket; a table of what each step's cut is; the cut of an asset; the steps in their order.
-/
import Derived.Test.YthlepeeejmeahaaDoorKeyTab
import Derived.Test.YthlepeeejmeahaaDoorDayMath
import Derived.Test.YthlepeeejmeahaaDoorAssetMath
namespace Go.Proofs.YthlepeeejmeahaaDoor
open Go Go.RowKit
set_option linter.unusedVariables false

abbrev StepT := Int × Int
/-- any numbers that an int holds. -/
def stIn (s : StepT) : Prop := (-9223372036854775808 ≤ s.1 ∧ s.1 ≤ 9223372036854775807) ∧ (-9223372036854775808 ≤ s.2 ∧ s.2 ≤ 9223372036854775807)
def stOk (s : StepT) : Prop := (1 ≤ s.1 ∧ s.1 ≤ 6) ∧ (0 ≤ s.2 ∧ s.2 < 6)
def bpOk (x : Int) : Prop := 0 ≤ x ∧ x ≤ 10000
instance (s : StepT) : Decidable (stOk s) := by unfold stOk; infer_instance
instance (x : Int) : Decidable (bpOk x) := by unfold bpOk; infer_instance
theorem stOk.isIn {s : StepT} (h : stOk s) : stIn s := by unfold stOk at h; unfold stIn; omega
def setC (s : StepT) (x : Int) : Int := if stOk s ∧ bpOk x then 0 else 103
def setT (T : StepT → Option Int) (s : StepT) (x : Int) : StepT → Option Int := if stOk s ∧ bpOk x then updK T s x else T
def fxC (x : Int) : Int := if bpOk x then 0 else 103
def fxN (fx x : Int) : Int := if bpOk x then x else fx
def getT (T : StepT → Option Int) (s : StepT) : Int := (T s).getD 0
/-- nothing is there but steps that may be, with cuts that may be. -/
def CutT (T : StepT → Option Int) : Prop := ∀ s x, T s = some x → stOk s ∧ bpOk x
def noT : StepT → Option Int := fun _ => none
theorem noT_cut : CutT noT := fun s x h => by cases h
theorem CutT.set {T : StepT → Option Int} (h : CutT T) (s : StepT) (x : Int) : CutT (setT T s x) := fun s' x' hs => by
  unfold setT at hs
  split at hs
  · rename_i hc
    unfold updK at hs
    split at hs
    · rename_i e; subst e
      obtain rfl := Option.some.inj hs
      exact hc
    · exact h _ _ hs
  · exact h _ _ hs
theorem CutT.get {T : StepT → Option Int} (h : CutT T) (s : StepT) : 0 ≤ getT T s ∧ getT T s ≤ 10000 := by
  unfold getT
  cases hs : T s with
  | none => simp
  | some x => exact (h s x hs).2
theorem CutT.out {T : StepT → Option Int} (h : CutT T) {s : StepT} (hs : ¬ stOk s) : T s = none := by
  cases e : T s with
  | none => rfl
  | some x => exact absurd (h s x e).1 hs
theorem fxN_ok {fx : Int} (h : bpOk fx) (x : Int) : bpOk (fxN fx x) := by
  unfold fxN
  split
  · assumption
  · exact h
/-- the bucket of an asset that is live: e its end, v the days that are left. -/
def bkA (a : As) (v : Int) : Int := if a.c = 1 then 0 else if a.e = 0 then 5 else bkD v
theorem bkA_bd (a : As) (v : Int) : 0 ≤ bkA a v ∧ bkA a v ≤ 5 := by
  have := bkD_bd v
  unfold bkA
  repeat' split
  all_goals omega
def liveCut (T : StepT → Option Int) (fx : Int) (a : As) (v : Int) : Int := min (getT T (a.c, bkA a v) + (if a.m = 1 then 0 else fx)) 10000

/-! The steps in their order. -/
def stepAt (k : Nat) : StepT := ((k / 6 : Nat) + 1, (k % 6 : Nat))
theorem stepAt_ok {k : Nat} (h : k < 36) : stOk (stepAt k) := by
  unfold stOk stepAt
  simp only
  omega
theorem stepAt_inj {j k : Nat} (h : stepAt j = stepAt k) : j = k := by
  unfold stepAt at h
  simp only [Prod.mk.injEq] at h
  omega
/-- a step's place. -/
def placeOf (s : StepT) : Nat := (s.1 - 1).toNat * 6 + s.2.toNat
theorem stepAt_place {s : StepT} (h : stOk s) : stepAt (placeOf s) = s ∧ placeOf s < 36 := by
  obtain ⟨c, b⟩ := s
  unfold stOk at h
  unfold stepAt placeOf
  simp only [Prod.mk.injEq] at *
  omega
def allK (T : StepT → Option Int) (k : Nat) : List StepT := ((List.range k).map stepAt).filter (fun s => (T s).isSome)
def allS (T : StepT → Option Int) : List StepT := allK T 36
theorem allK_next (T : StepT → Option Int) (k : Nat) : allK T (k + 1) = allK T k ++ (if (T (stepAt k)).isSome = true then [stepAt k] else []) := by
  unfold allK
  rw [List.range_succ, List.map_append, List.filter_append]
  congr 1
  simp only [List.map_cons, List.map_nil, List.filter_cons, List.filter_nil]
theorem allK_le (T : StepT → Option Int) (k : Nat) : (allK T k).length ≤ k := by
  unfold allK
  refine Nat.le_trans (List.length_filter_le _ _) ?_
  simp
theorem allK_more (T : StepT → Option Int) (k : Nat) : ∀ d, ∃ r, allK T (k + d) = allK T k ++ r
  | 0 => ⟨[], by simp⟩
  | d + 1 => by
    obtain ⟨r, e⟩ := allK_more T k d
    rw [← Nat.add_assoc, allK_next, e, List.append_assoc]
    exact ⟨_, rfl⟩
theorem allK_pre (T : StepT → Option Int) (k : Nat) (h : k ≤ 36) : ∃ r, allS T = allK T k ++ r := by
  obtain ⟨r, e⟩ := allK_more T k (36 - k)
  rw [show k + (36 - k) = 36 by omega] at e
  exact ⟨r, e⟩
/-- the step that comes next stands at its place. -/
theorem allS_at (T : StepT → Option Int) (k : Nat) (h : k < 36) (hs : (T (stepAt k)).isSome = true) : (allK T k).length < (allS T).length ∧ (allS T).getD (allK T k).length (0, 0) = stepAt k := by
  obtain ⟨r, e⟩ := allK_pre T (k + 1) (by omega)
  rw [allK_next, if_pos hs, List.append_assoc] at e
  rw [e]
  constructor
  · simp
  · rw [List.getD_eq_getElem?_getD, List.getElem?_append_right (Nat.le_refl _), Nat.sub_self]
    rfl
end Go.Proofs.YthlepeeejmeahaaDoor
