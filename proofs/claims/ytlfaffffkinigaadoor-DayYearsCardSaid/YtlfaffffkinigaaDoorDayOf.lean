/-
  A date's day, a day's date: what package day answers.
-/
import Derived.Test.YtlfaffffkinigaaDoorDay
namespace Go.Proofs.YtlfaffffkinigaaDoor
open Go.RowKit
set_option linter.unusedVariables false

theorem flip_same {P : Program} {f : FuncId} {args : Array Value} {w : World} {v : Value} (h : Calls P f args w fun e w' => e = .returned v ∧ w = w') : Calls P f args w fun e w' => e = .returned v ∧ w' = w := h.mono fun _ _ ⟨a, b⟩ => ⟨a, b.symm⟩
theorem below_drw {w w1 : World} {B : Nat} (h : Below B w w1) (k : Nat) : Below B w (w1.drewN k) := h.trans ⟨rfl, rfl, rfl, Nat.le_refl _, fun _ _ => rfl⟩
/-- a date as a value; as a block. -/
abbrev dateV (y m d : Int) : Value := .agg #[.int .i64 y, .int .i64 m, .int .i64 d]
abbrev dateO (y m d : Int) : Obj := .cells #[.int .i64 y, .int .i64 m, .int .i64 d] 23

theorem below_date (w : World) (y m d : Int) : Below w.heap.size w (w.alloc (dateO y m d)) := (Below.refl _ _).alloc (Nat.le_refl _) _

theorem incal_any (y m d : Int) (w : World) (h1 : -9223372036854775808 ≤ y) (h2 : y ≤ 9223372036854775807) :
    Calls Tryd.prog 24 #[dateV y m d] w fun e w' => e = .returned (.bool (vldB y m d)) ∧ Below w.heap.size w w' := by
  have hb := hidden (below_date w y m d)
  have hD := dmo_bd y m
  by_cases c1 : 1 ≤ m
  · by_cases c2 : m ≤ 12
    · by_cases c3 : 1 ≤ d
      · by_cases c4 : d ≤ dmo y m
        · have hv := hidden (vld_mk c1 c2 c3 c4)
          go_enter Tryd.func24, Tryd.ntmps24
          go_wp2_with fail
          go_quiet ((go_at_call 26; exact Calls.quiet_of_same (flip_same (dmo_any _ _ _ h1 h2))))
          go_wp2
          go_ret
          exact ⟨ret_bool hv.out.symm, below_drw hb.out _⟩
        · have hv := hidden (vld_no (y := y) (m := m) (d := d) (by omega))
          have q4 : decide (d ≤ dmo y m) = false := decide_eq_false c4
          go_enter Tryd.func24, Tryd.ntmps24
          go_wp2_with fail
          go_quiet ((go_at_call 26; exact Calls.quiet_of_same (flip_same (dmo_any _ _ _ h1 h2))))
          go_wp2
          go_ret
          exact ⟨ret_bool hv.out.symm, below_drw hb.out _⟩
      · have hv := hidden (vld_no (y := y) (m := m) (d := d) (by omega))
        have q3 : decide (1 ≤ d) = false := decide_eq_false c3
        go_enter Tryd.func24, Tryd.ntmps24
        go_wp2_with fail
        go_quiet (fail)
        go_wp2
        go_ret
        exact ⟨ret_bool hv.out.symm, below_drw hb.out _⟩
    · have hv := hidden (vld_no (y := y) (m := m) (d := d) (by omega))
      have q2 : decide (m ≤ 12) = false := decide_eq_false c2
      go_enter Tryd.func24, Tryd.ntmps24
      go_wp2_with fail
      go_quiet (fail)
      go_wp2
      go_ret
      exact ⟨ret_bool hv.out.symm, below_drw hb.out _⟩
  · have hv := hidden (vld_no (y := y) (m := m) (d := d) (by omega))
    have q1 : decide (1 ≤ m) = false := decide_eq_false c1
    go_enter Tryd.func24, Tryd.ntmps24
    go_wp2_with fail
    go_quiet (fail)
    go_wp2
    go_ret
    exact ⟨ret_bool hv.out.symm, below_drw hb.out _⟩

/-- the cells of a date that was laid last, in a world behind. -/
theorem date_cells {w w1 : World} {y m d : Int} (hb : Below (w.alloc (dateO y m d)).heap.size (w.alloc (dateO y m d)) w1) :
    w1.cell? ⟨w.heap.size, 0, none⟩ = some (.int .i64 y) ∧ w1.cell? ⟨w.heap.size, 1, none⟩ = some (.int .i64 m) ∧ w1.cell? ⟨w.heap.size, 2, none⟩ = some (.int .i64 d) ∧ Below w.heap.size w w1 := by
  have e2 : w1.heap[w.heap.size]? = some (.cells #[.int .i64 y, .int .i64 m, .int .i64 d] 23 (0, 0)) := by rw [hb.block _ (by simp)]; exact heap_alloc_new w _
  refine ⟨?_, ?_, ?_, (below_date w y m d).trans (hb.mono (by simp))⟩ <;> simp [World.cell?, e2]

theorem ret_of {A : Nat → Addr} {y m d n : Int} {v : Value} (h : n = ofV y m d) (g : v = errOf A (ofC y m d)) : Ending.returned (.tuple #[.int .i64 n, v]) = .returned (.tuple #[.int .i64 (ofV y m d), errOf A (ofC y m d)]) := by rw [h, g]

/-- the years ahead; the months ahead. -/
def OfY (y d : Int) (n i : Value) : Prop := ∃ k : Int, 2000 ≤ k ∧ k ≤ y ∧ i = .int .i64 k ∧ n = .int .i64 (yC k + (d - 1))
def OfM (y m d : Int) (n i : Value) : Prop := ∃ k : Int, 1 ≤ k ∧ k ≤ m ∧ i = .int .i64 k ∧ n = .int .i64 (yC y + mC y k + (d - 1))

set_option maxHeartbeats 1000000 in
theorem dayOf_any (A : Nat → Addr) (y m d : Int) (w : World) (hE : ErrsOn [2] w A) (h1 : -9223372036854775808 ≤ y) (h2 : y ≤ 9223372036854775807) :
    Calls Tryd.prog 10 #[dateV y m d] w fun e w' => e = .returned (.tuple #[.int .i64 (ofV y m d), errOf A (ofC y m d)]) ∧ Below w.heap.size w w' := by
  have hE' := hidden (fun w' (hb : Below w.heap.size w w') => (hE.below hb (Nat.le_refl _)) 2 (by decide))
  clear hE
  cases hv : vldB y m d
  · have e1 := hidden (of_no (okD_no (y := y) (m := m) (d := d) (by rw [hv]; simp)))
    go_enter Tryd.func10, Tryd.ntmps10
    go_wp2_with fail
    refine (incal_any _ _ _ _ h1 h2).mono ?_
    rintro e w1 ⟨rfl, hb⟩
    obtain ⟨c0, c1, c2, hb1⟩ := date_cells hb
    have hR : w1.cell? ⟨0, 0, none⟩ = some (errAt (A 2)) := hE'.out w1 hb1
    clear hb
    have hb := hidden hb1
    clear hb1
    generalize w.heap.size = B at c0 c1 c2
    go_wp2_with fail
    go_quiet (fail)
    go_wp2
    go_ret2
    exact ⟨ret_of e1.out.1.symm (by rw [e1.out.2]; rfl), below_drw hb.out _⟩
  · by_cases hy : y < 2000
    · have e1 := hidden (of_no (okD_no (y := y) (m := m) (d := d) (by omega)))
      go_enter Tryd.func10, Tryd.ntmps10
      go_wp2_with fail
      refine (incal_any _ _ _ _ h1 h2).mono ?_
      rintro e w1 ⟨rfl, hb⟩
      obtain ⟨c0, c1, c2, hb1⟩ := date_cells hb
      have hR : w1.cell? ⟨0, 0, none⟩ = some (errAt (A 2)) := hE'.out w1 hb1
      clear hb
      have hb := hidden hb1
      clear hb1
      generalize w.heap.size = B at c0 c1 c2
      go_wp2_with fail
      go_quiet (fail)
      go_wp2
      go_ret2
      exact ⟨ret_of e1.out.1.symm (by rw [e1.out.2]; rfl), below_drw hb.out _⟩
    · by_cases hl : 2109 < y
      · have e1 := hidden (of_no (okD_no_late (m := m) (d := d) hl))
        go_enter Tryd.func10, Tryd.ntmps10
        go_wp2_with fail
        refine (incal_any _ _ _ _ h1 h2).mono ?_
        rintro e w1 ⟨rfl, hb⟩
        obtain ⟨c0, c1, c2, hb1⟩ := date_cells hb
        have hR : w1.cell? ⟨0, 0, none⟩ = some (errAt (A 2)) := hE'.out w1 hb1
        clear hb
        have hb := hidden hb1
        clear hb1
        generalize w.heap.size = B at c0 c1 c2
        go_wp2_with fail
        go_quiet (fail)
        go_wp2
        go_ret2
        exact ⟨ret_of e1.out.1.symm (by rw [e1.out.2]; rfl), below_drw hb.out _⟩
      · obtain ⟨m1, m2, d1, d2⟩ := vld_yes hv
        have hD := dmo_bd y m
        have d3 : d ≤ 31 := by omega
        have y1 : 2000 ≤ y := by omega
        have y2 : y ≤ 2109 := by omega
        have hv' := hidden hv
        have hN := hidden (show numD y m d = yC y + mC y m + (d - 1) from rfl)
        clear hy hl hD d2
        go_enter Tryd.func10, Tryd.ntmps10
        go_wp2_with fail
        refine (incal_any _ _ _ _ h1 h2).mono ?_
        rintro e w1 ⟨rfl, hb⟩
        obtain ⟨c0, c1, c2, hb1⟩ := date_cells hb
        have hR : w1.cell? ⟨0, 0, none⟩ = some (errAt (A 2)) := hE'.out w1 hb1
        clear hb
        have hb := hidden hb1
        clear hb1
        generalize w.heap.size = B at c0 c1 c2
        go_wp2_with fail
        go_loop [4, 5] (OfY y d) (fun _ i => (y - intOf i).toNat)
        case atStart => exact ⟨2000, by omega, by omega, rfl, by rw [yC_first, Int.zero_add]⟩
        case round =>
          obtain ⟨k, k1, k2, rfl, rfl⟩ := hrel
          have b1 := yC_le 2000 k k1
          have b2 := yC_le k 2109 (by omega)
          rw [yC_first] at b1
          rw [show yC 2109 = 39812 by decide] at b2
          by_cases hlt : k < y
          · have hd := dyr_bd k
            obtain ⟨q1, q2⟩ := hd
            have hn := hidden (yC_next k)
            go_wp2_with (go_at_call 25; refine (dyr_any _ _ (by omega) (by omega)).mono ?_; rintro e w' ⟨rfl, rfl⟩)
            go_round
            case rel => exact ⟨k + 1, by omega, by omega, rfl, by rw [hn.out]; congr 1; omega⟩
            case measure => simp [intOf]; omega
          · obtain rfl : k = y := by omega
            go_wp2_with fail
            go_loop [4, 6] (OfM k m d) (fun _ i => (m - intOf i).toNat)
            case atStart => exact ⟨1, by omega, by omega, rfl, by rw [mC_first, Int.add_zero]⟩
            case round =>
              obtain ⟨j, j1, j2, rfl, rfl⟩ := hrel
              obtain ⟨g1, g2⟩ := mC_bd k j j1 (by omega)
              by_cases hlt : j < m
              · obtain ⟨q1, q2⟩ := dmo_bd k j
                have hn := hidden (mC_next k j j1 (by omega))
                go_wp2_with (go_at_call 26; refine (dmo_any _ _ _ (by omega) (by omega)).mono ?_; rintro e w' ⟨rfl, rfl⟩)
                go_round
                case rel => exact ⟨j + 1, by omega, by omega, rfl, by rw [hn.out]; congr 1; omega⟩
                case measure => simp [intOf]; omega
              · obtain rfl : j = m := by omega
                rw [← hN.out]
                have n1 : 0 ≤ numD k j d := by have := hN.out; omega
                have n2 : numD k j d ≤ 50000 := by have := hN.out; omega
                by_cases hlate : 40000 < numD k j d
                · have e1 := hidden (of_no (okD_no (y := k) (m := j) (d := d) (by omega)))
                  go_wp2_with fail
                  go_quiet (fail)
                  go_wp2
                  go_ret2
                  exact ⟨ret_of e1.out.1.symm (by rw [e1.out.2]; rfl), below_drw hb.out _⟩
                · have e1 := hidden (of_yes (okD_mk (by omega) hv'.out (by omega : numD k j d ≤ 40000)))
                  go_wp2
                  go_ret2
                  exact ⟨ret_of e1.out.1.symm (by rw [e1.out.2]; rfl), hb.out⟩
end Go.Proofs.YtlfaffffkinigaaDoor
