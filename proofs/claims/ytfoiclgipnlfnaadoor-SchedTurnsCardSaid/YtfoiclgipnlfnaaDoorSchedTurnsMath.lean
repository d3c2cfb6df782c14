/-
  Entries of one class, ten days apart.
-/
import Derived.Test.YtfoiclgipnlfnaaDoorSched4
namespace Go.Proofs.YtfoiclgipnlfnaaDoor
open Go.RowKit
set_option linter.unusedVariables false

def tE (l : List Int) (k : Nat) : En := ⟨10 * (k : Int) + 5, 3, ((l.getD k 0).tmod 2 == 0)⟩
def tuE (l : List Int) : List En := (List.range l.length).map (tE l)
theorem tuE_len (l : List Int) : (tuE l).length = l.length := by simp [tuE]
theorem tuE_at {l : List Int} {k : Nat} (h : k < l.length) : (tuE l).getD k enZ = tE l k := by
  rw [tuE, List.getD_eq_getElem?_getD, List.getElem?_map, List.getElem?_range h]; rfl
theorem tE_ok {l : List Int} {k : Nat} (h : k < 20) : EnOk (tE l k) := by
  unfold EnOk tE
  simp only
  omega
theorem tE_ahead {l : List Int} {j i : Nat} (h : j < i) : aheadE (tE l j) (tE l i) := by
  unfold aheadE tE
  simp only
  omega
def schT (l : List Int) (turned : Bool) (i : Nat) : List En := if turned then (tuE l).drop (l.length - i) else (tuE l).take i
def kT (l : List Int) (turned : Bool) (i : Nat) : Nat := if turned then l.length - 1 - i else i
theorem schT_zero (l : List Int) (turned : Bool) : schT l turned 0 = [] := by
  unfold schT
  cases turned
  · simp
  · simp [← tuE_len l]
theorem schT_all (l : List Int) (turned : Bool) : schT l turned l.length = tuE l := by
  unfold schT
  cases turned
  · simp [← tuE_len l]
  · simp
theorem takeT_at {l : List Int} {i j : Nat} (hi : i ≤ l.length) (hj : j < i) : ((tuE l).take i).getD j enZ = tE l j := by
  rw [← tuE_at (show j < l.length by omega), List.getD_eq_getElem?_getD, List.getElem?_take, if_pos hj, List.getD_eq_getElem?_getD]
theorem schT_next {l : List Int} (turned : Bool) {i : Nat} (h20 : l.length ≤ 20) (h : i < l.length) : adC (schT l turned i) (tE l (kT l turned i)) = 0 ∧ nextE (schT l turned i) (tE l (kT l turned i)) = schT l turned (i + 1) := by
  have hT := tuE_len l
  cases turned
  · have hl : ((tuE l).take i).length = i := by rw [List.length_take, hT]; omega
    have hp : plE ((tuE l).take i) (tE l i) = ((tuE l).take i).length := by
      refine plE_eq ⟨Nat.le_refl _, fun j hj => ?_, fun hh => absurd hh (Nat.lt_irrefl _)⟩
      rw [hl] at hj
      rw [takeT_at (by omega) hj]
      exact tE_ahead hj
    obtain ⟨q1, _, q3⟩ := adE_new (tE_ok (l := l) (show i < 20 by omega)) (hitE_end hp) (by rw [hl]; omega)
    refine ⟨q1, ?_⟩
    show nextE ((tuE l).take i) (tE l i) = (tuE l).take (i + 1)
    rw [q3, hp, takeE_next _ _ (by rw [hT]; exact h), tuE_at h]
    unfold insE
    rw [List.take_length, List.drop_length]
  · obtain ⟨m, hm⟩ : ∃ m, m = l.length - 1 - i := ⟨_, rfl⟩
    have hm1 : l.length - i = m + 1 := by omega
    have hm2 : l.length - (i + 1) = m := by omega
    have hml : m < l.length := by omega
    unfold schT kT
    simp only [if_true]
    rw [← hm, hm1, hm2]
    have h0 : ∀ (hh : 0 < ((tuE l).drop (m + 1)).length), ((tuE l).drop (m + 1)).getD 0 enZ = tE l (m + 1) := fun hh => by
      rw [List.length_drop, hT] at hh
      rw [← tuE_at (show m + 1 < l.length by omega), List.getD_eq_getElem?_getD, List.getElem?_drop, List.getD_eq_getElem?_getD]
    have hp : plE ((tuE l).drop (m + 1)) (tE l m) = 0 := by
      refine plE_eq ⟨Nat.zero_le _, fun j hj => absurd hj (Nat.not_lt_zero _), fun hh => ?_⟩
      rw [h0 hh]
      have := tE_ahead (l := l) (show m < m + 1 by omega)
      unfold aheadE at *
      omega
    have hh : hitE ((tuE l).drop (m + 1)) (tE l m) = false := by
      refine decide_eq_false fun q => ?_
      rw [hp] at q
      rw [h0 q.1] at q
      exact q.2 (tE_ahead (show m < m + 1 by omega))
    obtain ⟨q1, _, q3⟩ := adE_new (tE_ok (l := l) (show m < 20 by omega)) hh (by rw [List.length_drop, hT]; omega)
    refine ⟨q1, ?_⟩
    rw [q3, hp, List.drop_eq_getElem_cons (show m < (tuE l).length by omega)]
    have e := tuE_at hml
    rw [List.getD_eq_getElem?_getD, List.getElem?_eq_getElem (by omega)] at e
    rw [show (tuE l)[m] = tE l m from e]
    rfl

/-! What it comes to, entry by entry. -/
def nxI (q : Option Int) : Int := q.getD (-1)
theorem nxE_none {L : List En} {c t : Int} {on : Bool} (h : ∀ k, k < L.length → (L.getD k enZ).d ≤ t) : nxE L c t on = none := by
  induction L with
  | nil => rfl
  | cons a L ih =>
    have h0 : a.d ≤ t := h 0 (by simp)
    rw [nxE, if_neg (by omega)]
    exact ih fun k hk => h (k + 1) (by simpa using hk)
theorem nxE_pos {L : List En} {c t d : Int} {on : Bool} (h : ∀ k, k < L.length → 0 ≤ (L.getD k enZ).d) (hq : nxE L c t on = some d) : 0 ≤ d := by
  induction L with
  | nil => cases hq
  | cons a L ih =>
    have h0 : 0 ≤ a.d := h 0 (by simp)
    rw [nxE] at hq
    split at hq
    · obtain rfl := Option.some.inj hq
      exact h0
    · exact ih (fun k hk => h (k + 1) (by simpa using hk)) hq
theorem onE_none {L : List En} {c t : Int} (h : ∀ k, k < L.length → ¬ (L.getD k enZ).c = c) : onE L c t = false := by
  have key : ∀ k, k ≤ L.length → onE (L.take k) c t = false := fun k => by
    induction k with
    | zero => intro _; rfl
    | succ k ih => intro hk; rw [onE_next L c t k hk, if_neg fun q => h k hk q.1, ih (by omega)]
  have := key L.length (Nat.le_refl _)
  rwa [List.take_length] at this
theorem turn_ways {l : List Int} {i : Nat} (t : Int) (h : i < l.length) :
    (10 * (i : Int) + 5 ≤ t ∧ onE ((tuE l).take (i + 1)) 3 t = ((l.getD i 0).tmod 2 == 0) ∧ nxI (nxE ((tuE l).take (i + 1)) 3 t ((l.getD i 0).tmod 2 == 0)) = nxI (nxE ((tuE l).take i) 3 t (onE ((tuE l).take i) 3 t))) ∨
    (t < 10 * (i : Int) + 5 ∧ onE ((tuE l).take (i + 1)) 3 t = onE ((tuE l).take i) 3 t ∧
      ((0 ≤ nxI (nxE ((tuE l).take i) 3 t (onE ((tuE l).take i) 3 t)) ∧ nxI (nxE ((tuE l).take (i + 1)) 3 t (onE ((tuE l).take i) 3 t)) = nxI (nxE ((tuE l).take i) 3 t (onE ((tuE l).take i) 3 t))) ∨
      (nxI (nxE ((tuE l).take i) 3 t (onE ((tuE l).take i) 3 t)) < 0 ∧ ((l.getD i 0).tmod 2 == 0) = onE ((tuE l).take i) 3 t ∧ nxI (nxE ((tuE l).take (i + 1)) 3 t (onE ((tuE l).take i) 3 t)) = nxI (nxE ((tuE l).take i) 3 t (onE ((tuE l).take i) 3 t))) ∨
      (nxI (nxE ((tuE l).take i) 3 t (onE ((tuE l).take i) 3 t)) < 0 ∧ ((l.getD i 0).tmod 2 == 0) = (!onE ((tuE l).take i) 3 t) ∧ nxI (nxE ((tuE l).take (i + 1)) 3 t (onE ((tuE l).take i) 3 t)) = 10 * (i : Int) + 5))) := by
  have hT := tuE_len l
  have hn := onE_next (tuE l) 3 t i (by omega)
  have ha := nxE_app ((tuE l).take i) (tE l i) 3 t
  rw [tuE_at h] at hn
  have htk := takeE_next (tuE l) i (by omega)
  rw [tuE_at h] at htk
  have hlen : ((tuE l).take i).length = i := by rw [List.length_take, hT]; omega
  have hall : ∀ k, k < ((tuE l).take i).length → (((tuE l).take i).getD k enZ).d = 10 * (k : Int) + 5 := fun k hk => by
    rw [hlen] at hk
    rw [takeT_at (by omega) hk]
    rfl
  have hd : (tE l i).d = 10 * (i : Int) + 5 := rfl
  have hc : (tE l i).c = 3 := rfl
  have ho : (tE l i).o = ((l.getD i 0).tmod 2 == 0) := rfl
  rw [hd, hc, ho] at hn
  rw [hd, hc, ho, ← htk] at ha
  generalize ((l.getD i 0).tmod 2 == 0) = o at *
  by_cases hle : 10 * (i : Int) + 5 ≤ t
  · left
    refine ⟨hle, by rw [hn, if_pos ⟨rfl, hle⟩], ?_⟩
    have h1 : ∀ on, nxE ((tuE l).take i) 3 t on = none := fun on => nxE_none fun k hk => by rw [hall k hk]; rw [hlen] at hk; omega
    rw [ha, h1, h1, if_neg (by omega)]
    rfl
  · right
    have hb : onE ((tuE l).take (i + 1)) 3 t = onE ((tuE l).take i) 3 t := by rw [hn, if_neg (by omega)]
    refine ⟨by omega, hb, ?_⟩
    rw [ha]
    generalize onE ((tuE l).take i) 3 t = b at *
    cases hq : nxE ((tuE l).take i) 3 t b with
    | some d =>
      left
      have := nxE_pos (fun k hk => by rw [hall k hk]; omega) hq
      exact ⟨this, rfl⟩
    | none =>
      right
      by_cases hob : o = b
      · left
        refine ⟨by decide, hob, ?_⟩
        rw [if_neg fun q => q.2.2 hob]
        rfl
      · right
        refine ⟨by decide, ?_, ?_⟩
        · cases o <;> cases b <;> simp_all
        · rw [if_pos ⟨rfl, by omega, hob⟩]
          rfl
end Go.Proofs.YtfoiclgipnlfnaaDoor
