/-
  A day's date: what package day answers.
-/
import Derived.Test.YtlfaffffkinigaaDoorDayOf
import Derived.RegionTactic
import Derived.ChangeAlike
namespace Go.Proofs.YtlfaffffkinigaaDoor
open Go.RowKit
set_option linter.unusedVariables false

/-- a date is answered: that day's, or none, and why. -/
def AtEnd (A : Nat → Addr) (n : Int) (w : World) (e : Ending) (w' : World) : Prop := ∃ y m d c : Int, DatD n y m d c ∧ e = .returned (.tuple #[dateV y m d, errOf A c]) ∧ Below w.heap.size w w'
def AtY (n : Int) (x i : Value) : Prop := ∃ k : Int, 2000 ≤ k ∧ yC k ≤ n ∧ i = .int .i64 k ∧ x = .int .i64 (n - yC k)
def AtM (n y : Int) (x i : Value) : Prop := ∃ j : Int, 1 ≤ j ∧ j ≤ 12 ∧ yC y + mC y j ≤ n ∧ i = .int .i64 j ∧ x = .int .i64 (n - yC y - mC y j)
theorem at_none {A : Nat → Addr} {n : Int} {w w' : World} (h : n < 0 ∨ 40000 < n) (hb : Below w.heap.size w w') : AtEnd A n w (.returned (.tuple #[dateV 0 0 0, errAt (A 2)])) w' :=
  ⟨0, 0, 0, 103, .inr ⟨h, rfl, rfl, rfl, rfl⟩, rfl, hb⟩
theorem at_one {A : Nat → Addr} {n y m d : Int} {w w' : World} (h0 : 0 ≤ n) (h1 : n ≤ 40000) (hy : 2000 ≤ y) (m1 : 1 ≤ m) (m2 : m ≤ 12) (e : d = n - yC y - mC y m + 1) (d0 : 0 ≤ n - yC y - mC y m) (d1 : n - yC y - mC y m < dmo y m) (hb : Below w.heap.size w w') :
    AtEnd A n w (.returned (.tuple #[dateV y m d, .nilIface])) w' :=
  ⟨y, m, d, 0, .inl ⟨h0, h1, rfl, hy, vld_mk m1 m2 (by omega) (by omega), by unfold numD; omega⟩, rfl, hb⟩
set_option maxHeartbeats 1000000 in
theorem dayAt_any (A : Nat → Addr) (n : Int) (w : World) (hE : ErrsOn [2] w A) (h1 : -9223372036854775808 ≤ n) (h2 : n ≤ 9223372036854775807) :
    Calls Tryd.prog 12 #[.int .i64 n] w (AtEnd A n w) := by
  have hR : w.cell? ⟨0, 0, none⟩ = some (errAt (A 2)) := hE 2 (by decide)
  have hlt : 0 < w.heap.size := World.block_lt_of_cell? w _ hR
  clear hE
  by_cases c0 : n < 0
  · go_enter Tryd.func12, Tryd.ntmps12
    go_wp2_with fail
    go_region
    all_goals
      go_wp2
      exact bodyPost_ret (v := .tuple #[dateV 0 0 0, errAt (A 2)]) (by simp [results, Tryd.results12, go_sem]) rfl (at_none (by omega) (by first | exact below_date w _ _ _ | exact below_drw (below_date w _ _ _) 1))
  · by_cases c1 : 40000 < n
    · go_enter Tryd.func12, Tryd.ntmps12
      go_wp2_with fail
      go_region
      all_goals
        go_wp2
        exact bodyPost_ret (v := .tuple #[dateV 0 0 0, errAt (A 2)]) (by simp [results, Tryd.results12, go_sem]) rfl (at_none (by omega) (by first | exact below_date w _ _ _ | exact below_drw (below_date w _ _ _) 1))
    · go_enter Tryd.func12, Tryd.ntmps12
      go_wp2_with fail
      go_loop [0, 4] (AtY n) (fun x _ => (intOf x).toNat)
      case atStart => exact ⟨2000, by omega, by rw [yC_first]; omega, rfl, by rw [yC_first, Int.sub_zero]⟩
      case round =>
        obtain ⟨k, k1, k2, rfl, rfl⟩ := hrel
        have b1 := yC_le 2000 k k1
        rw [yC_first] at b1
        obtain ⟨q1, q2⟩ := dyr_bd k
        have hn := hidden (yC_next k)
        have k3 : k ≤ 2109 := by
          by_cases e : 2109 < k
          · have := yC_le 2110 k (by omega)
            rw [show yC 2110 = 40177 by decide] at this
            omega
          · omega
        by_cases hge : dyr k ≤ n - yC k
        · go_wp2_with (go_at_call 25; refine (dyr_any _ _ (by omega) (by omega)).mono ?_; rintro e w' ⟨rfl, rfl⟩)
          go_round
          case rel => exact ⟨k + 1, by omega, by rw [hn.out]; omega, rfl, by rw [hn.out]; congr 1; omega⟩
          case measure => simp [intOf]; omega
        · go_wp2_with (go_at_call 25; refine (dyr_any _ _ (by omega) (by omega)).mono ?_; rintro e w' ⟨rfl, rfl⟩)
          go_loop [0, 5] (AtM n k) (fun x _ => (intOf x).toNat)
          case atStart => exact ⟨1, by omega, by omega, by rw [mC_first]; omega, rfl, by rw [mC_first, Int.sub_zero]⟩
          case round =>
            obtain ⟨j, j1, j2, j3, rfl, rfl⟩ := hrel
            obtain ⟨g1, g2⟩ := mC_bd k j j1 (by omega)
            obtain ⟨p1, p2⟩ := dmo_bd k j
            have hm := hidden (mC_next k j j1 j2)
            by_cases hge2 : dmo k j ≤ n - yC k - mC k j
            · have j4 : j < 12 := by
                by_cases e : j = 12
                · subst e
                  have e1 := hm.out
                  have e2 := mC_last k
                  rw [show (12 : Int) + 1 = 13 from rfl] at e1
                  omega
                · omega
              go_wp2_with (go_at_call 26; refine (dmo_any _ _ _ (by omega) (by omega)).mono ?_; rintro e w' ⟨rfl, rfl⟩)
              go_round
              case rel => exact ⟨j + 1, by omega, by omega, by rw [hm.out]; omega, rfl, by rw [hm.out]; congr 1; omega⟩
              case measure => simp [intOf]; omega
            · go_wp2_with (go_at_call 26; refine (dmo_any _ _ _ (by omega) (by omega)).mono ?_; rintro e w' ⟨rfl, rfl⟩)
              exact bodyPost_ret (v := .tuple #[dateV k j (n - yC k - mC k j + 1), .nilIface]) (by simp [results, Tryd.results12, go_sem]) rfl (at_one (by omega) (by omega) k1 j1 j2 rfl (by omega) (by omega) (below_date w _ _ _))
end Go.Proofs.YtlfaffffkinigaaDoor
