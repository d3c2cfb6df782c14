/-
  The calendar as numbers: leap years, years, months, a day's number, the day of the week, buckets.
-/
import Derived.Test.YtphpmngaljldgaaDoorRet
namespace Go.Proofs.YtphpmngaljldgaaDoor
open Go.RowKit

/-- does a year leap? -/
def lpB (y : Int) : Bool := decide (y % 4 = 0 ∧ (y % 100 ≠ 0 ∨ y % 400 = 0))
/-- a year's days. -/
def dyr (y : Int) : Int := if lpB y = true then 366 else 365
/-- a month's days. -/
def dmo (y m : Int) : Int := if m = 2 then (if lpB y = true then 29 else 28) else if m = 4 ∨ m = 6 ∨ m = 9 ∨ m = 11 then 30 else 31
/-- how many of a hundred days each are ahead of a year; of a month. -/
def yC (y : Int) : Int := 365 * (y - 2000) + (y - 1997) / 4 - (y - 1901) / 100 + (y - 1601) / 400
def mC (y m : Int) : Int :=
  (if m ≤ 1 then 0 else if m = 2 then 31 else if m = 3 then 59 else if m = 4 then 90 else if m = 5 then 120 else if m = 6 then 151 else if m = 7 then 181 else if m = 8 then 212 else if m = 9 then 243 else if m = 10 then 273 else if m = 11 then 304 else if m = 12 then 334 else 365) + (if 3 ≤ m ∧ lpB y = true then 1 else 0)
theorem lp_iff (y : Int) : lpB y = true ↔ y % 4 = 0 ∧ (y % 100 ≠ 0 ∨ y % 400 = 0) := decide_eq_true_iff
theorem yC_first : yC 2000 = 0 := by decide
theorem yC_next (y : Int) : yC (y + 1) = yC y + dyr y := by
  have h := lp_iff y
  unfold yC dyr
  by_cases hl : lpB y = true
  · rw [if_pos hl]; have := h.1 hl; omega
  · rw [if_neg hl]; have : ¬ (y % 4 = 0 ∧ (y % 100 ≠ 0 ∨ y % 400 = 0)) := fun c => hl (h.2 c); omega
theorem dyr_bd (y : Int) : 365 ≤ dyr y ∧ dyr y ≤ 366 := by unfold dyr; split <;> omega
theorem dmo_bd (y m : Int) : 28 ≤ dmo y m ∧ dmo y m ≤ 31 := by unfold dmo; split <;> (try split) <;> (try split) <;> omega
theorem yC_mono (a b : Int) (h : a < b) : yC a + 365 ≤ yC b := by
  have key : ∀ k : Nat, yC a + 365 ≤ yC (a + 1 + k) := fun k => by
    induction k with
    | zero => have := yC_next a; have := dyr_bd a; simp only [Int.natCast_zero, Int.add_zero]; omega
    | succ k ih => have e := yC_next (a + 1 + k); have := dyr_bd (a + 1 + k); rw [show a + 1 + ((k + 1 : Nat) : Int) = a + 1 + k + 1 by omega]; omega
  have := key (b - a - 1).toNat
  rwa [show a + 1 + ((b - a - 1).toNat : Int) = b by omega] at this
theorem yC_le (a b : Int) (h : a ≤ b) : yC a ≤ yC b := by
  by_cases e : a = b
  · rw [e]; exact Int.le_refl _
  · have := yC_mono a b (by omega); omega
theorem mC_first (y : Int) : mC y 1 = 0 := by unfold mC; rw [if_pos (by decide), if_neg (by omega)]; rfl
theorem months_cases {m : Int} (h1 : 1 ≤ m) (h2 : m ≤ 12) : m = 1 ∨ m = 2 ∨ m = 3 ∨ m = 4 ∨ m = 5 ∨ m = 6 ∨ m = 7 ∨ m = 8 ∨ m = 9 ∨ m = 10 ∨ m = 11 ∨ m = 12 := by omega
theorem mC_next (y m : Int) (h1 : 1 ≤ m) (h2 : m ≤ 12) : mC y (m + 1) = mC y m + dmo y m := by
  cases hl : lpB y <;> rcases months_cases h1 h2 with rfl | rfl | rfl | rfl | rfl | rfl | rfl | rfl | rfl | rfl | rfl | rfl <;> simp [mC, dmo, hl]
theorem mC_last (y : Int) : mC y 13 = dyr y := by
  cases hl : lpB y <;> simp [mC, dyr, hl]
theorem mC_bd (y m : Int) (h1 : 1 ≤ m) (h2 : m ≤ 13) : 0 ≤ mC y m ∧ mC y m ≤ 366 := by
  by_cases h3 : m = 13
  · rw [h3, mC_last]; have := dyr_bd y; omega
  · cases hl : lpB y <;> rcases months_cases h1 (show m ≤ 12 by omega) with rfl | rfl | rfl | rfl | rfl | rfl | rfl | rfl | rfl | rfl | rfl | rfl <;> simp [mC, hl]
theorem mC_mono (y a b : Int) (h1 : 1 ≤ a) (h : a < b) (h2 : b ≤ 13) : mC y a + dmo y a ≤ mC y b := by
  have key : ∀ k : Nat, a + 1 + k ≤ 13 → mC y a + dmo y a ≤ mC y (a + 1 + k) := fun k => by
    induction k with
    | zero => intro hk; simp only [Int.natCast_zero, Int.add_zero]; rw [mC_next y a h1 (by omega)]; exact Int.le_refl _
    | succ k ih =>
      intro hk
      have e := mC_next y (a + 1 + k) (by omega) (by omega); have := dmo_bd y (a + 1 + k)
      have := ih (by omega)
      rw [show a + 1 + ((k + 1 : Nat) : Int) = a + 1 + k + 1 by omega]; omega
  have := key (b - a - 1).toNat (by omega)
  rwa [show a + 1 + ((b - a - 1).toNat : Int) = b by omega] at this

/-- a day's number. -/
def numD (y m d : Int) : Int := yC y + mC y m + (d - 1)
/-- a day of the calendar. -/
def vldB (y m d : Int) : Bool := decide (1 ≤ m ∧ m ≤ 12 ∧ 1 ≤ d ∧ d ≤ dmo y m)
theorem vld_yes {y m d : Int} (h : vldB y m d = true) : 1 ≤ m ∧ m ≤ 12 ∧ 1 ≤ d ∧ d ≤ dmo y m := of_decide_eq_true h
theorem vld_mk {y m d : Int} (h1 : 1 ≤ m) (h2 : m ≤ 12) (h3 : 1 ≤ d) (h4 : d ≤ dmo y m) : vldB y m d = true := decide_eq_true ⟨h1, h2, h3, h4⟩
theorem vld_no {y m d : Int} (h : ¬ (1 ≤ m ∧ m ≤ 12 ∧ 1 ≤ d ∧ d ≤ dmo y m)) : vldB y m d = false := decide_eq_false h
/-- a day within the years, before it is too late. -/
def okD (y m d : Int) : Bool := decide (2000 ≤ y ∧ vldB y m d = true ∧ numD y m d ≤ 40000)
def ofV (y m d : Int) : Int := if okD y m d = true then numD y m d else 0
def ofC (y m d : Int) : Int := if okD y m d = true then 0 else 103
theorem ofC_ok (y m d : Int) : ofC y m d = 0 ∨ (101 ≤ ofC y m d ∧ ofC y m d ≤ 121) := by unfold ofC; split <;> omega
theorem num_in_year {y m d : Int} (h : vldB y m d = true) : yC y ≤ numD y m d ∧ numD y m d < yC (y + 1) := by
  obtain ⟨h1, h2, h3, h4⟩ := vld_yes h
  have e1 := mC_next y m h1 h2
  have e2 := mC_bd y m h1 (by omega)
  have e3 := yC_next y
  have e4 := mC_last y
  have e5 : mC y (m + 1) ≤ mC y 13 := by
    by_cases e : m = 12
    · rw [e]; exact Int.le_refl _
    · have := mC_mono y (m + 1) 13 (by omega) (by omega) (by omega); have := dmo_bd y (m + 1); omega
  unfold numD
  omega
theorem num_in_month {y m d : Int} (h : vldB y m d = true) : yC y + mC y m ≤ numD y m d ∧ numD y m d < yC y + mC y (m + 1) := by
  obtain ⟨h1, h2, h3, h4⟩ := vld_yes h
  rw [mC_next y m h1 h2]
  unfold numD
  omega
theorem okD_no_late {y m d : Int} (h : 2109 < y) : okD y m d = false := by
  unfold okD
  refine decide_eq_false fun ⟨_, hv, hn⟩ => ?_
  have e := (num_in_year hv).1
  have e2 := yC_le 2110 y (by omega)
  have e3 : yC 2110 = 40177 := by decide
  omega
theorem okD_no {y m d : Int} (h : ¬ (2000 ≤ y ∧ vldB y m d = true ∧ numD y m d ≤ 40000)) : okD y m d = false := decide_eq_false h
theorem okD_mk {y m d : Int} (h1 : 2000 ≤ y) (h2 : vldB y m d = true) (h3 : numD y m d ≤ 40000) : okD y m d = true := decide_eq_true ⟨h1, h2, h3⟩
theorem okD_yes {y m d : Int} (h : okD y m d = true) : 2000 ≤ y ∧ vldB y m d = true ∧ numD y m d ≤ 40000 := of_decide_eq_true h
theorem of_yes {y m d : Int} (h : okD y m d = true) : ofV y m d = numD y m d ∧ ofC y m d = 0 := by unfold ofV ofC; rw [if_pos h, if_pos h]; exact ⟨rfl, rfl⟩
theorem of_no {y m d : Int} (h : okD y m d = false) : ofV y m d = 0 ∧ ofC y m d = 103 := by unfold ofV ofC; rw [if_neg (by rw [h]; decide), if_neg (by rw [h]; decide)]; exact ⟨rfl, rfl⟩

/-- a day's date: its number is that day's; else none, and why. -/
def DatD (n y m d c : Int) : Prop := (0 ≤ n ∧ n ≤ 40000 ∧ c = 0 ∧ 2000 ≤ y ∧ vldB y m d = true ∧ numD y m d = n) ∨ ((n < 0 ∨ 40000 < n) ∧ c = 103 ∧ y = 0 ∧ m = 0 ∧ d = 0)
theorem num_year_one {y m d y' m' d' : Int} (h : vldB y m d = true) (h' : vldB y' m' d' = true) (e : numD y m d = numD y' m' d') : y = y' := by
  have a := num_in_year h
  have b := num_in_year h'
  rcases Int.lt_trichotomy y y' with c | c | c
  · have := yC_le (y + 1) y' (by omega); omega
  · exact c
  · have := yC_le (y' + 1) y (by omega); omega
theorem num_month_one {y m d m' d' : Int} (h : vldB y m d = true) (h' : vldB y m' d' = true) (e : numD y m d = numD y m' d') : m = m' := by
  have a := num_in_month h
  have b := num_in_month h'
  obtain ⟨h1, h2, h3, h4⟩ := vld_yes h
  obtain ⟨g1, g2, g3, g4⟩ := vld_yes h'
  rcases Int.lt_trichotomy m m' with c | c | c
  · have := mC_mono y m m' h1 c (by omega); have := mC_next y m h1 h2; omega
  · exact c
  · have := mC_mono y m' m g1 c (by omega); have := mC_next y m' g1 g2; omega
theorem num_one {y m d y' m' d' : Int} (h : vldB y m d = true) (h' : vldB y' m' d' = true) (e : numD y m d = numD y' m' d') : y = y' ∧ m = m' ∧ d = d' := by
  obtain rfl := num_year_one h h' e
  obtain rfl := num_month_one h h' e
  refine ⟨rfl, rfl, ?_⟩
  unfold numD at e; omega
theorem dat_one {n y m d c y' m' d' c' : Int} (h : DatD n y m d c) (h' : DatD n y' m' d' c') : y = y' ∧ m = m' ∧ d = d' ∧ c = c' := by
  rcases h with ⟨a1, a2, a3, a4, a5, a6⟩ | ⟨a1, a2, a3, a4, a5⟩ <;> rcases h' with ⟨b1, b2, b3, b4, b5, b6⟩ | ⟨b1, b2, b3, b4, b5⟩
  · obtain ⟨rfl, rfl, rfl⟩ := num_one a5 b5 (by omega)
    exact ⟨rfl, rfl, rfl, by omega⟩
  · omega
  · omega
  · omega
theorem dat_code {n y m d c : Int} (h : DatD n y m d c) : c = 0 ∨ (101 ≤ c ∧ c ≤ 121) := by
  rcases h with ⟨_, _, h, _⟩ | ⟨_, h, _⟩ <;> omega

/-- the next day. -/
theorem num_next {n y m d y' m' d' : Int} (h : vldB y m d = true) (h' : vldB y' m' d' = true) (e : numD y m d = n) (e' : numD y' m' d' = n + 1) :
    (y' = y ∧ m' = m ∧ d' = d + 1) ∨ (d' = 1 ∧ 28 ≤ d ∧ (y < y' ∨ y' = y ∧ m < m')) := by
  obtain ⟨h1, h2, h3, h4⟩ := vld_yes h
  have hd := dmo_bd y m
  by_cases c1 : d < dmo y m
  · left
    have hv : vldB y m (d + 1) = true := vld_mk h1 h2 (by omega) (by omega)
    obtain ⟨rfl, rfl, rfl⟩ := num_one h' hv (by unfold numD at *; omega)
    exact ⟨rfl, rfl, rfl⟩
  · right
    by_cases c2 : m < 12
    · have hv : vldB y (m + 1) 1 = true := vld_mk (by omega) (by omega) (by omega) (by have := dmo_bd y (m + 1); omega)
      have := mC_next y m h1 h2
      obtain ⟨rfl, rfl, rfl⟩ := num_one h' hv (by unfold numD at *; omega)
      omega
    · have hv : vldB (y + 1) 1 1 = true := vld_mk (by omega) (by omega) (by omega) (by have := dmo_bd (y + 1) 1; omega)
      have := mC_next y m h1 h2
      have := mC_last y
      have := yC_next y
      have := mC_first (y + 1)
      obtain rfl : m = 12 := by omega
      rw [show (12 : Int) + 1 = 13 from rfl] at *
      obtain ⟨rfl, rfl, rfl⟩ := num_one h' hv (by unfold numD at *; omega)
      omega

/-- the day of the week. -/
def wkD (n : Int) : Int := (n + 6) % 7
/-- a bucket. -/
def bkD (n : Int) : Int := if n < 30 then 0 else if n < 90 then 1 else if n < 365 then 2 else if n < 1095 then 3 else if n < 3650 then 4 else 5
theorem bkD_bd (n : Int) : 0 ≤ bkD n ∧ bkD n ≤ 5 := by unfold bkD; (repeat' split) <;> omega
theorem bkD_mono {a b : Int} (h : a ≤ b) : bkD a ≤ bkD b := by unfold bkD; (repeat' split) <;> omega
end Go.Proofs.YtphpmngaljldgaaDoor
