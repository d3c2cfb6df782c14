/-
  The document's own answers: a date's day, a day's date.
-/
import Derived.Test.YtlfaffffkinigaaDoorRefDay
import Derived.Test.YtlfaffffkinigaaDoorDayAt
namespace Go.Proofs.YtlfaffffkinigaaDoor
open Go.RowKit
set_option linter.unusedVariables false

set_option maxHeartbeats 1000000 in
theorem refOf_any (y m d : Int) (w : World) (h1 : -9223372036854775808 ≤ y) (h2 : y ≤ 9223372036854775807) :
    Calls Tryd.prog 11 #[.int .i64 y, .int .i64 m, .int .i64 d] w fun e w' => e = .returned (.tuple #[.int .i64 (ofV y m d), .int .i64 (ofC y m d)]) ∧ w = w' := by
  by_cases hy : y < 2000
  · have e1 := hidden (of_no (okD_no (y := y) (m := m) (d := d) (by omega)))
    go_enter Tryd.func11, Tryd.ntmps11
    go_wp2
    go_ret2
    exact ⟨ret_ii e1.out.1.symm e1.out.2.symm, rfl⟩
  · by_cases hl : 2200 < y
    · have e1 := hidden (of_no (okD_no_late (m := m) (d := d) (show 2109 < y by omega)))
      go_enter Tryd.func11, Tryd.ntmps11
      go_wp2
      go_ret2
      exact ⟨ret_ii e1.out.1.symm e1.out.2.symm, rfl⟩
    · by_cases hm1 : m < 1
      · have e1 := hidden (of_no (okD_no (y := y) (m := m) (d := d) (by rw [vld_no (by omega)]; simp)))
        go_enter Tryd.func11, Tryd.ntmps11
        go_wp2
        go_ret2
        exact ⟨ret_ii e1.out.1.symm e1.out.2.symm, rfl⟩
      · by_cases hm2 : 12 < m
        · have e1 := hidden (of_no (okD_no (y := y) (m := m) (d := d) (by rw [vld_no (by omega)]; simp)))
          go_enter Tryd.func11, Tryd.ntmps11
          go_wp2
          go_ret2
          exact ⟨ret_ii e1.out.1.symm e1.out.2.symm, rfl⟩
        · by_cases hd1 : d < 1
          · have e1 := hidden (of_no (okD_no (y := y) (m := m) (d := d) (by rw [vld_no (by omega)]; simp)))
            go_enter Tryd.func11, Tryd.ntmps11
            go_wp2
            go_ret2
            exact ⟨ret_ii e1.out.1.symm e1.out.2.symm, rfl⟩
          · by_cases hd2 : dmo y m < d
            · have e1 := hidden (of_no (okD_no (y := y) (m := m) (d := d) (by rw [vld_no (by omega)]; simp)))
              go_enter Tryd.func11, Tryd.ntmps11
              go_wp2_with (go_at_call 27; refine (refLength_any _ _ _ h1 h2).mono ?_; rintro e w' ⟨rfl, rfl⟩)
              go_ret2
              exact ⟨ret_ii e1.out.1.symm e1.out.2.symm, rfl⟩
            · have hv : vldB y m d = true := vld_mk (by omega) (by omega) (by omega) (by omega)
              have hD := dmo_bd y m
              have m1 : 1 ≤ m := by omega
              have m2 : m ≤ 12 := by omega
              have d1 : 1 ≤ d := by omega
              have d3 : d ≤ 31 := by omega
              have y1 : 2000 ≤ y := by omega
              have y2 : y ≤ 2200 := by omega
              have hv' := hidden hv
              have hN := hidden (show numD y m d = yC y + mC y m + (d - 1) from rfl)
              clear hy hl hD hm1 hm2 hd1 hv
              go_enter Tryd.func11, Tryd.ntmps11
              go_wp2_with (go_at_call 27; refine (refLength_any _ _ _ h1 h2).mono ?_; rintro e w' ⟨rfl, rfl⟩)
              clear hd2
              go_loop [8, 9] (OfY y d) (fun _ i => (y - intOf i).toNat)
              case atStart => exact ⟨2000, by omega, by omega, rfl, by rw [yC_first, Int.zero_add]⟩
              case round =>
                obtain ⟨k, k1, k2, rfl, rfl⟩ := hrel
                have b1 := yC_le 2000 k k1
                have b2 := yC_le k 2200 (by omega)
                rw [yC_first] at b1
                rw [show yC 2200 = 73049 by decide] at b2
                by_cases hlt : k < y
                · have hd := dyr_bd k
                  obtain ⟨q1, q2⟩ := hd
                  have hn := hidden (yC_next k)
                  go_wp2_with (go_at_call 28; refine (refDays_any _ _ (by omega) (by omega)).mono ?_; rintro e w' ⟨rfl, rfl⟩)
                  go_round
                  case rel => exact ⟨k + 1, by omega, by omega, rfl, by rw [hn.out]; congr 1; omega⟩
                  case measure => simp [intOf]; omega
                · obtain rfl : k = y := by omega
                  go_wp2_with fail
                  go_loop [8, 10] (OfM k m d) (fun _ i => (m - intOf i).toNat)
                  case atStart => exact ⟨1, by omega, by omega, rfl, by rw [mC_first, Int.add_zero]⟩
                  case round =>
                    obtain ⟨j, j1, j2, rfl, rfl⟩ := hrel
                    obtain ⟨g1, g2⟩ := mC_bd k j j1 (by omega)
                    by_cases hlt : j < m
                    · obtain ⟨q1, q2⟩ := dmo_bd k j
                      have hn := hidden (mC_next k j j1 (by omega))
                      go_wp2_with (go_at_call 27; refine (refLength_any _ _ _ (by omega) (by omega)).mono ?_; rintro e w' ⟨rfl, rfl⟩)
                      go_round
                      case rel => exact ⟨j + 1, by omega, by omega, rfl, by rw [hn.out]; congr 1; omega⟩
                      case measure => simp [intOf]; omega
                    · obtain rfl : j = m := by omega
                      rw [← hN.out]
                      have n1 : 0 ≤ numD k j d := by have := hN.out; omega
                      have n2 : numD k j d ≤ 80000 := by have := hN.out; omega
                      by_cases hlate : 40000 < numD k j d
                      · have e1 := hidden (of_no (okD_no (y := k) (m := j) (d := d) (by omega)))
                        go_wp2
                        go_ret2
                        exact ⟨ret_ii e1.out.1.symm e1.out.2.symm, rfl⟩
                      · have e1 := hidden (of_yes (okD_mk (by omega) hv'.out (by omega : numD k j d ≤ 40000)))
                        go_wp2
                        go_ret2
                        exact ⟨ret_ii e1.out.1.symm e1.out.2.symm, rfl⟩

/-- a date is answered, by its numbers. -/
def RefAtEnd (n : Int) (w : World) (e : Ending) (w' : World) : Prop := ∃ y m d c : Int, DatD n y m d c ∧ e = .returned (.tuple #[.int .i64 y, .int .i64 m, .int .i64 d, .int .i64 c]) ∧ w = w'
theorem refAt_none {n : Int} {w : World} (h : n < 0 ∨ 40000 < n) : RefAtEnd n w (.returned (.tuple #[.int .i64 0, .int .i64 0, .int .i64 0, .int .i64 103])) w :=
  ⟨0, 0, 0, 103, .inr ⟨h, rfl, rfl, rfl, rfl⟩, rfl, rfl⟩
theorem refAt_one {n y m d : Int} {w : World} (h0 : 0 ≤ n) (h1 : n ≤ 40000) (hy : 2000 ≤ y) (m1 : 1 ≤ m) (m2 : m ≤ 12) (e : d = n - yC y - mC y m + 1) (d0 : 0 ≤ n - yC y - mC y m) (d1 : n - yC y - mC y m < dmo y m) :
    RefAtEnd n w (.returned (.tuple #[.int .i64 y, .int .i64 m, .int .i64 d, .int .i64 0])) w :=
  ⟨y, m, d, 0, .inl ⟨h0, h1, rfl, hy, vld_mk m1 m2 (by omega) (by omega), by unfold numD; omega⟩, rfl, rfl⟩

set_option maxHeartbeats 1000000 in
theorem refAt_any (n : Int) (w : World) (h1 : -9223372036854775808 ≤ n) (h2 : n ≤ 9223372036854775807) :
    Calls Tryd.prog 13 #[.int .i64 n] w (RefAtEnd n w) := by
  by_cases c0 : n < 0
  · go_enter Tryd.func13, Tryd.ntmps13
    go_wp2
    exact bodyPost_ret (v := .tuple #[.int .i64 0, .int .i64 0, .int .i64 0, .int .i64 103]) (by simp [results, Tryd.results13, go_sem]) rfl (refAt_none (by omega))
  · by_cases c1 : 40000 < n
    · go_enter Tryd.func13, Tryd.ntmps13
      go_wp2
      exact bodyPost_ret (v := .tuple #[.int .i64 0, .int .i64 0, .int .i64 0, .int .i64 103]) (by simp [results, Tryd.results13, go_sem]) rfl (refAt_none (by omega))
    · go_enter Tryd.func13, Tryd.ntmps13
      go_wp2_with fail
      go_loop [0, 6] (AtY n) (fun x _ => (intOf x).toNat)
      case atStart => exact ⟨2000, by omega, by rw [yC_first]; omega, rfl, by rw [yC_first, Int.sub_zero]⟩
      case round =>
        obtain ⟨k, k1, k2, rfl, rfl⟩ := hrel
        have b1 := yC_le 2000 k k1
        rw [yC_first] at b1
        obtain ⟨q1, q2⟩ := dyr_bd k
        have hn := hidden (yC_next k)
        have k3 : k ≤ 2109 := by
          by_cases e : 2109 < k
          · have := yC_le 2110 k (by omega)
            rw [show yC 2110 = 40177 by decide] at this
            omega
          · omega
        by_cases hge : dyr k ≤ n - yC k
        · go_wp2_with (go_at_call 28; refine (refDays_any _ _ (by omega) (by omega)).mono ?_; rintro e w' ⟨rfl, rfl⟩)
          go_round
          case rel => exact ⟨k + 1, by omega, by rw [hn.out]; omega, rfl, by rw [hn.out]; congr 1; omega⟩
          case measure => simp [intOf]; omega
        · go_wp2_with (go_at_call 28; refine (refDays_any _ _ (by omega) (by omega)).mono ?_; rintro e w' ⟨rfl, rfl⟩)
          go_loop [0, 7] (AtM n k) (fun x _ => (intOf x).toNat)
          case atStart => exact ⟨1, by omega, by omega, by rw [mC_first]; omega, rfl, by rw [mC_first, Int.sub_zero]⟩
          case round =>
            obtain ⟨j, j1, j2, j3, rfl, rfl⟩ := hrel
            obtain ⟨g1, g2⟩ := mC_bd k j j1 (by omega)
            obtain ⟨p1, p2⟩ := dmo_bd k j
            have hm := hidden (mC_next k j j1 j2)
            by_cases hge2 : dmo k j ≤ n - yC k - mC k j
            · have j4 : j < 12 := by
                by_cases e : j = 12
                · subst e
                  have e1 := hm.out
                  have e2 := mC_last k
                  rw [show (12 : Int) + 1 = 13 from rfl] at e1
                  omega
                · omega
              go_wp2_with (go_at_call 27; refine (refLength_any _ _ _ (by omega) (by omega)).mono ?_; rintro e w' ⟨rfl, rfl⟩)
              go_round
              case rel => exact ⟨j + 1, by omega, by omega, by rw [hm.out]; omega, rfl, by rw [hm.out]; congr 1; omega⟩
              case measure => simp [intOf]; omega
            · go_wp2_with (go_at_call 27; refine (refLength_any _ _ _ (by omega) (by omega)).mono ?_; rintro e w' ⟨rfl, rfl⟩)
              exact bodyPost_ret (v := .tuple #[.int .i64 k, .int .i64 j, .int .i64 (n - yC k - mC k j + 1), .int .i64 0]) (by simp [results, Tryd.results13, go_sem]) rfl (refAt_one (by omega) (by omega) k1 j1 j2 rfl (by omega) (by omega))
end Go.Proofs.YtlfaffffkinigaaDoor
