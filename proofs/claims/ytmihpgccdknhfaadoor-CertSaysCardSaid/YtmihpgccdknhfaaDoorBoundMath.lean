/-
  Bounds: the lot that costs least for what it is worth, of those from one on; what a worth costs at least.
  The lot that costs least, as the code goes through them.
-/
import Derived.Test.YtmihpgccdknhfaaDoorLotsMath
import Derived.Test.YtmihpgccdknhfaaDoorFixMath
namespace Go.Proofs.YtmihpgccdknhfaaDoor
open Go Go.RowKit
set_option linter.unusedVariables false

def ratedB (x : Lt) : Bool := decide (x.v > 0) && decide (x.u > 0)
theorem ratedB_iff {x : Lt} : ratedB x = true ↔ 0 < x.v ∧ 0 < x.u := by unfold ratedB; simp
/-- the first of those from one on, ahead of k, that none is cheaper than. -/
def rtTo (L : List Lt) (from_ : Nat) : Nat → Option Nat
  | 0 => none
  | k + 1 => if decide (from_ ≤ k) && ratedB (L.getD k ltZ) then (match rtTo L from_ k with
      | none => some k
      | some r => if dear (L.getD r ltZ) (L.getD k ltZ) = true then some k else some r) else rtTo L from_ k
def RateIs (L : List Lt) (from_ k : Nat) (r : Option Nat) : Prop :=
  (r = none → ∀ i, from_ ≤ i → i < k → ratedB (L.getD i ltZ) = false) ∧
    ∀ j, r = some j → from_ ≤ j ∧ j < k ∧ ratedB (L.getD j ltZ) = true ∧ ∀ i, from_ ≤ i → i < k → ratedB (L.getD i ltZ) = true → (L.getD j ltZ).c * (L.getD i ltZ).v ≤ (L.getD i ltZ).c * (L.getD j ltZ).v
theorem dear_iff {a b : Lt} (ha : ratedB a = true) (hb : ratedB b = true) : dear a b = true ↔ b.c * a.v < a.c * b.v := by
  have h1 := (ratedB_iff.1 ha).1
  have h2 := (ratedB_iff.1 hb).1
  unfold dear
  rw [if_neg (by omega), decide_eq_true_iff]
/-- cheaper than one that is cheaper. -/
theorem rate_trans {ac av bc bv cc cv : Int} (hb : 0 < bv) (ha0 : 0 ≤ av) (hc0 : 0 ≤ cv) (h1 : ac * bv ≤ bc * av) (h2 : bc * cv ≤ cc * bv) : ac * cv ≤ cc * av := by
  have e1 : ac * bv * cv ≤ bc * av * cv := Int.mul_le_mul_of_nonneg_right h1 hc0
  have e2 : bc * cv * av ≤ cc * bv * av := Int.mul_le_mul_of_nonneg_right h2 ha0
  have e3 : (ac * cv) * bv ≤ (cc * av) * bv := by
    rw [show ac * cv * bv = ac * bv * cv by grind, show cc * av * bv = cc * bv * av by grind]
    refine Int.le_trans e1 ?_
    rw [show bc * av * cv = bc * cv * av by grind]
    exact e2
  exact Int.le_of_mul_le_mul_right e3 hb
theorem rateIs_to (L : List Lt) (from_ : Nat) : ∀ k, RateIs L from_ k (rtTo L from_ k)
  | 0 => ⟨fun _ i _ h => by omega, fun j h => by cases h⟩
  | k + 1 => by
    have ih := rateIs_to L from_ k
    unfold rtTo
    by_cases hf : from_ ≤ k
    · cases hr : ratedB (L.getD k ltZ)
      · rw [if_neg (by simp)]
        refine ⟨fun h i h1 h2 => ?_, fun j h => ?_⟩
        · by_cases e : i = k
          · subst e; exact hr
          · exact ih.1 h i h1 (by omega)
        · obtain ⟨q1, q2, q3, q4⟩ := ih.2 j h
          refine ⟨q1, by omega, q3, fun i h1 h2 h3 => ?_⟩
          by_cases e : i = k
          · subst e; rw [hr] at h3; cases h3
          · exact q4 i h1 (by omega) h3
      · rw [if_pos (by simp [hf])]
        cases hb : rtTo L from_ k with
        | none =>
          rw [hb] at ih
          refine ⟨fun h => by simp at h, fun j h => ?_⟩
          simp only [Option.some.injEq] at h
          subst h
          refine ⟨hf, by omega, hr, fun i h1 h2 h3 => ?_⟩
          by_cases e : i = k
          · subst e; exact Int.le_refl _
          · have := ih.1 rfl i h1 (by omega)
            rw [this] at h3; cases h3
        | some r =>
          rw [hb] at ih
          obtain ⟨q1, q2, q3, q4⟩ := ih.2 r rfl
          have hrv := (ratedB_iff.1 q3).1
          have hkv := (ratedB_iff.1 hr).1
          simp only
          by_cases hd : dear (L.getD r ltZ) (L.getD k ltZ) = true
          · rw [if_pos hd]
            have hlt := (dear_iff q3 hr).1 hd
            refine ⟨fun h => by simp at h, fun j h => ?_⟩
            simp only [Option.some.injEq] at h
            subst h
            refine ⟨hf, by omega, hr, fun i h1 h2 h3 => ?_⟩
            by_cases e : i = k
            · subst e; exact Int.le_refl _
            · have hiv := (ratedB_iff.1 h3).1
              exact rate_trans hrv (Int.le_of_lt hkv) (Int.le_of_lt hiv) (Int.le_of_lt hlt) (q4 i h1 (by omega) h3)
          · rw [if_neg hd]
            refine ⟨fun h => by simp at h, fun j h => ?_⟩
            simp only [Option.some.injEq] at h
            subst h
            refine ⟨q1, by omega, q3, fun i h1 h2 h3 => ?_⟩
            by_cases e : i = k
            · subst e
              have := mt (dear_iff q3 hr).2 hd
              omega
            · exact q4 i h1 (by omega) h3
    · rw [if_neg (by simp [hf])]
      refine ⟨fun h i h1 h2 => ih.1 h i h1 (by omega), fun j h => ?_⟩
      obtain ⟨q1, q2, q3, q4⟩ := ih.2 j h
      exact ⟨q1, by omega, q3, fun i h1 h2 h3 => q4 i h1 (by omega) h3⟩
def rtOf (L : List Lt) (from_ : Nat) : Option Nat := rtTo L from_ L.length
theorem rateIs_of (L : List Lt) (from_ : Nat) : RateIs L from_ L.length (rtOf L from_) := rateIs_to L from_ _

/-! Quotients cut up. -/
theorem up_le {P v K : Int} (hv : 0 < v) : -(-P / v) ≤ K ↔ P ≤ K * v := by
  have h := Int.le_ediv_iff_mul_le (a := -K) (b := -P) hv
  rw [Int.neg_mul] at h
  omega
theorem divq_le {a b c K : Int} (hc : 0 < c) : divq a b c true ≤ K ↔ a * b ≤ K * c := by
  unfold divq
  rw [if_pos rfl]
  exact up_le hc
theorem divq_self {a b c : Int} (hc : 0 < c) : a * b ≤ divq a b c true * c := (divq_le hc).1 (Int.le_refl _)
theorem divq_pos {a b c : Int} (hc : 0 < c) (ha : 0 ≤ a) (hb : 0 ≤ b) : 0 ≤ divq a b c true := by
  apply Decidable.byContradiction
  intro h
  have h1 : divq a b c true ≤ -1 := by omega
  have h2 := (divq_le hc).1 h1
  have := Int.mul_nonneg ha hb
  omega
theorem divq_mono {a a' b c : Int} (hc : 0 < c) (hb : 0 ≤ b) (h : a ≤ a') : divq a b c true ≤ divq a' b c true :=
  (divq_le hc).2 (Int.le_trans (Int.mul_le_mul_of_nonneg_right h hb) (divq_self hc))
theorem divq_twice {a b c : Int} (hc : 0 < c) : divq (2 * a) b c true ≤ 2 * divq a b c true := by
  refine (divq_le hc).2 ?_
  have h := divq_self (a := a) (b := b) hc
  generalize divq a b c true = q at *
  rw [Int.mul_assoc, Int.mul_assoc]
  omega
/-- a cheaper rate asks no more. -/
theorem divq_rate {a b c b' c' : Int} (hc : 0 < c) (hc' : 0 < c') (ha : 0 ≤ a) (h : b * c' ≤ b' * c) : divq a b c true ≤ divq a b' c' true := by
  refine (divq_le hc).2 ?_
  have h1 := divq_self (a := a) (b := b') hc'
  generalize divq a b' c' true = q at *
  have e1 : a * b * c' ≤ a * b' * c := by
    rw [Int.mul_assoc, Int.mul_assoc]
    exact Int.mul_le_mul_of_nonneg_left h ha
  have e2 : a * b' * c ≤ q * c' * c := Int.mul_le_mul_of_nonneg_right h1 (Int.le_of_lt hc)
  have e3 : a * b * c' ≤ q * c * c' := by
    rw [show q * c * c' = q * c' * c by grind]
    exact Int.le_trans e1 e2
  exact Int.le_of_mul_le_mul_right e3 hc'
theorem divq_small {a b c : Int} (hc : 0 < c) (ha : 0 ≤ a) (hb : 0 ≤ b) : divq a b c true ≤ a * b := by
  refine (divq_le hc).2 ?_
  have h := Int.mul_nonneg ha hb
  calc a * b = a * b * 1 := by omega
    _ ≤ a * b * c := Int.mul_le_mul_of_nonneg_left (by omega) h

/-! What is taken of those from one on. -/
/-- the sum over the places from one on, ahead of k. -/
def sumB (f : Nat → Int) (from_ k : Nat) : Int := sumF (fun i => if from_ ≤ i then f i else 0) k
theorem sumB_skip {f : Nat → Int} {from_ k : Nat} (h : k ≤ from_) : sumB f from_ k = 0 := sumF_zero fun i hi => if_neg (by omega)
theorem sumB_next {f : Nat → Int} {from_ k : Nat} (h : from_ ≤ k) : sumB f from_ (k + 1) = sumB f from_ k + f k := by
  show sumF _ k + (if from_ ≤ k then f k else 0) = _
  rw [if_pos h]
  rfl
theorem sumB_bd {f : Nat → Int} {M : Int} (hM : 0 ≤ M) {from_ k : Nat} (h : ∀ i, from_ ≤ i → i < k → 0 ≤ f i ∧ f i ≤ M) : 0 ≤ sumB f from_ k ∧ sumB f from_ k ≤ (k : Int) * M :=
  sumF_bd fun i hi => by
    split
    · rename_i q; exact h i q hi
    · omega
theorem sumB_le {f g : Nat → Int} {from_ k : Nat} (h : ∀ i, from_ ≤ i → i < k → f i ≤ g i) : sumB f from_ k ≤ sumB g from_ k := sumF_le fun i hi => by
  split
  · rename_i q; exact h i q hi
  · exact Int.le_refl _
theorem sumB_mul {f : Nat → Int} {from_ : Nat} (m : Int) : ∀ k, sumB f from_ k * m = sumB (fun i => f i * m) from_ k
  | 0 => by simp [sumB, sumF]
  | k + 1 => by
    have ih := sumB_mul (f := f) (from_ := from_) m k
    by_cases h : from_ ≤ k
    · rw [sumB_next h, sumB_next h, Int.add_mul, ih]
    · rw [sumB_skip (by omega), sumB_skip (by omega), Int.zero_mul]
/-- of any take of those from one on: what it is worth at the cheapest rate is no more than what it costs. -/
theorem bound_holds {L : List Lt} {C : List Int} {n : Int} (h : OkP L C n) {from_ r : Nat} (hr : rtOf L from_ = some r) {t : Nat → Int} (ht : ∀ i, from_ ≤ i → i < L.length → 0 ≤ t i ∧ t i ≤ (L.getD i ltZ).u) :
    sumB (fun i => t i * (L.getD i ltZ).v) from_ L.length * (L.getD r ltZ).c ≤ sumB (fun i => t i * (L.getD i ltZ).c) from_ L.length * (L.getD r ltZ).v := by
  obtain ⟨q1, q2, q3, q4⟩ := (rateIs_of L from_).2 r hr
  rw [sumB_mul, sumB_mul]
  refine sumB_le fun i h1 h2 => ?_
  have hl := h.lot h2
  have hlr := h.lot q2
  obtain ⟨t0, t1⟩ := ht i h1 h2
  have hrest : 0 ≤ t i * (L.getD i ltZ).c * (L.getD r ltZ).v := Int.mul_nonneg (Int.mul_nonneg t0 hl.2.2.1.1) hlr.2.1.1
  cases hb : ratedB (L.getD i ltZ)
  · have hz : t i * (L.getD i ltZ).v = 0 := by
      by_cases e : (L.getD i ltZ).v = 0
      · rw [e, Int.mul_zero]
      · have : ¬ (0 < (L.getD i ltZ).v ∧ 0 < (L.getD i ltZ).u) := fun z => by rw [ratedB_iff.2 z] at hb; cases hb
        have hv := hl.2.1.1
        have : t i = 0 := by omega
        rw [this, Int.zero_mul]
    rw [hz, Int.zero_mul]
    exact hrest
  · have := q4 i h1 h2 hb
    rw [Int.mul_assoc, Int.mul_assoc]
    refine Int.mul_le_mul_of_nonneg_left ?_ t0
    rw [Int.mul_comm (L.getD i ltZ).v]
    exact this
/-- where something is worth more than nothing there is a rate. -/
theorem bound_rate {L : List Lt} {C : List Int} {n : Int} (h : OkP L C n) {from_ : Nat} {t : Nat → Int} (ht : ∀ i, from_ ≤ i → i < L.length → 0 ≤ t i ∧ t i ≤ (L.getD i ltZ).u) (hp : 0 < sumB (fun i => t i * (L.getD i ltZ).v) from_ L.length) : ∃ r, rtOf L from_ = some r := by
  cases hr : rtOf L from_ with
  | some r => exact ⟨r, rfl⟩
  | none =>
    have hno := (rateIs_of L from_).1 hr
    have : sumB (fun i => t i * (L.getD i ltZ).v) from_ L.length = 0 := sumF_zero fun i hi => by
      split
      · rename_i q
        have hb := hno i q hi
        have hl := h.lot hi
        obtain ⟨t0, t1⟩ := ht i q hi
        show t i * (L.getD i ltZ).v = 0
        by_cases e : (L.getD i ltZ).v = 0
        · rw [e, Int.mul_zero]
        · have : ¬ (0 < (L.getD i ltZ).v ∧ 0 < (L.getD i ltZ).u) := fun z => by rw [ratedB_iff.2 z] at hb; cases hb
          have hv := hl.2.1.1
          have : t i = 0 := by omega
          rw [this, Int.zero_mul]
      · rfl
    omega
/-- from a later one on the rate is no cheaper. -/
theorem rate_later {L : List Lt} {from_ g s : Nat} (hg : from_ ≤ g) (hs : rtOf L g = some s) : ∃ r, rtOf L from_ = some r ∧ (L.getD r ltZ).c * (L.getD s ltZ).v ≤ (L.getD s ltZ).c * (L.getD r ltZ).v := by
  obtain ⟨q1, q2, q3, q4⟩ := (rateIs_of L g).2 s hs
  cases hr : rtOf L from_ with
  | none =>
    have := (rateIs_of L from_).1 hr s (by omega) q2
    rw [q3] at this; cases this
  | some r => exact ⟨r, rfl, ((rateIs_of L from_).2 r hr).2.2.2 s (by omega) q2 q3⟩
end Go.Proofs.YtmihpgccdknhfaaDoor
namespace Go.Proofs.YtmihpgccdknhfaaDoor
open Go Go.RowKit
set_option linter.unusedVariables false

/-- one lot more. -/
def chS (b x : Lt) : Lt := if x.v = 0 ∨ x.u = 0 then b else if b.v = 0 ∨ x.c * b.v < b.c * x.v then x else b
/-- the cheapest among the first k. -/
def chT (l : List Lt) : Nat → Lt
  | 0 => ltZ
  | k + 1 => chS (chT l k) (l.getD k ltZ)
theorem chS_ways (b x : Lt) : (x.v = 0 ∧ chS b x = b) ∨ (¬ x.v = 0 ∧ x.u = 0 ∧ chS b x = b) ∨ (¬ x.v = 0 ∧ ¬ x.u = 0 ∧ b.v = 0 ∧ chS b x = x) ∨ (¬ x.v = 0 ∧ ¬ x.u = 0 ∧ ¬ b.v = 0 ∧ x.c * b.v < b.c * x.v ∧ chS b x = x) ∨ (¬ x.v = 0 ∧ ¬ x.u = 0 ∧ ¬ b.v = 0 ∧ ¬ x.c * b.v < b.c * x.v ∧ chS b x = b) := by
  unfold chS
  by_cases h1 : x.v = 0
  · exact .inl ⟨h1, if_pos (.inl h1)⟩
  · by_cases h2 : x.u = 0
    · exact .inr (.inl ⟨h1, h2, if_pos (.inr h2)⟩)
    · rw [if_neg (by omega)]
      by_cases h3 : b.v = 0
      · exact .inr (.inr (.inl ⟨h1, h2, h3, if_pos (.inl h3)⟩))
      · by_cases h4 : x.c * b.v < b.c * x.v
        · exact .inr (.inr (.inr (.inl ⟨h1, h2, h3, h4, if_pos (.inr h4)⟩)))
        · exact .inr (.inr (.inr (.inr ⟨h1, h2, h3, h4, if_neg (fun q => q.elim h3 h4)⟩)))
theorem chT_big (l : List Lt) (h : ∀ x ∈ l, ltBig x) : ∀ k, k ≤ l.length → ltBig (chT l k)
  | 0, _ => by unfold chT ltZ ltBig In64; simp
  | k + 1, hk => by
    have ih := chT_big l h k (by omega)
    have hx : ltBig (l.getD k ltZ) := by
      rw [List.getD_eq_getElem?_getD, List.getElem?_eq_getElem (by omega)]; exact h _ (List.getElem_mem _)
    show ltBig (chS _ _)
    unfold chS
    split
    · exact ih
    · split
      · exact hx
      · exact ih
/-- none so far has a value where the rate's place is none; else it is that lot. -/
def chOf (L : List Lt) : Option Nat → Lt
  | none => ltZ
  | some r => L.getD r ltZ
theorem rtTo_next (L : List Lt) (f k : Nat) : rtTo L f (f + k + 1) = if ratedB (L.getD (f + k) ltZ) = true then (match rtTo L f (f + k) with
      | none => some (f + k)
      | some r => if dear (L.getD r ltZ) (L.getD (f + k) ltZ) = true then some (f + k) else some r) else rtTo L f (f + k) := by
  show (if (decide (f ≤ f + k) && ratedB (L.getD (f + k) ltZ)) = true then _ else _) = _
  rw [decide_eq_true (Nat.le_add_right f k), Bool.true_and]
theorem chT_rate {L : List Lt} {C : List Int} {n : Int} (h : OkP L C n) (f : Nat) : ∀ k, f + k ≤ L.length → chT (L.drop f) k = chOf L (rtTo L f (f + k))
  | 0, hk => by
    show ltZ = chOf L (rtTo L f (f + 0))
    have : rtTo L f (f + 0) = none := by
      cases hr : rtTo L f (f + 0) with
      | none => rfl
      | some j =>
        have := (rateIs_to L f (f + 0)).2 j hr
        omega
    rw [this]
    rfl
  | k + 1, hk => by
    have ih := chT_rate h f k (by omega)
    have e : (L.drop f).getD k ltZ = L.getD (f + k) ltZ := by
      rw [List.getD_eq_getElem?_getD, List.getD_eq_getElem?_getD, List.getElem?_drop]
    show chS (chT (L.drop f) k) ((L.drop f).getD k ltZ) = chOf L (rtTo L f (f + k + 1))
    rw [ih, e]
    have hx := h.lot (k := f + k) (by omega)
    rw [rtTo_next]
    cases hr : ratedB (L.getD (f + k) ltZ)
    · rw [if_neg (by simp)]
      have : ¬ (0 < (L.getD (f + k) ltZ).v ∧ 0 < (L.getD (f + k) ltZ).u) := fun z => by rw [ratedB_iff.2 z] at hr; cases hr
      unfold ltOk at hx
      unfold chS
      rw [if_pos (by omega)]
    · have hv := ratedB_iff.1 hr
      rw [if_pos rfl]
      cases hb : rtTo L f (f + k) with
      | none =>
        show chS ltZ _ = L.getD (f + k) ltZ
        unfold chS
        rw [if_neg (by omega), if_pos (.inl rfl)]
      | some r =>
        obtain ⟨q1, q2, q3, q4⟩ := (rateIs_to L f (f + k)).2 r hb
        have hrv := ratedB_iff.1 q3
        have hd := dear_iff q3 hr
        show chS (L.getD r ltZ) (L.getD (f + k) ltZ) = chOf L (if dear (L.getD r ltZ) (L.getD (f + k) ltZ) = true then some (f + k) else some r)
        unfold chS
        rw [if_neg (by omega)]
        by_cases hh : dear (L.getD r ltZ) (L.getD (f + k) ltZ) = true
        · rw [if_pos hh, if_pos (.inr (hd.1 hh))]; rfl
        · rw [if_neg hh, if_neg (by have := mt hd.2 hh; omega)]; rfl
/-- the cheapest of those from one on. -/
def chL (L : List Lt) (f : Nat) : Lt := chT (L.drop f) (L.drop f).length
theorem chL_rate {L : List Lt} {C : List Int} {n : Int} (h : OkP L C n) {f : Nat} (hf : f ≤ L.length) : chL L f = chOf L (rtOf L f) := by
  have := chT_rate h f (L.length - f) (by omega)
  unfold chL rtOf
  rw [List.length_drop, this, show f + (L.length - f) = L.length by omega]
end Go.Proofs.YtmihpgccdknhfaaDoor
