import Derived.Test.YtlfaffffkinigaaDoorDayLaw
import Derived.Test.YtlfaffffkinigaaDoorLaidOn
namespace Go.Proofs.YtlfaffffkinigaaDoor
open Go.RowKit
set_option linter.unusedVariables false

theorem of_newyear {y : Int} (h0 : 2000 ≤ y) (h1 : y ≤ 2108) : ofV y 1 1 = yC y ∧ ofC y 1 1 = 0 ∧ 0 ≤ yC y ∧ yC y ≤ 39446 := by
  have b1 := yC_le 2000 y h0
  have b2 := yC_le y 2108 h1
  rw [yC_first] at b1
  rw [show yC 2108 = 39446 by decide] at b2
  have hn : numD y 1 1 = yC y := by unfold numD; rw [mC_first]; omega
  have hv : vldB y 1 1 = true := vld_mk (by decide) (by decide) (by decide) (by have := dmo_bd y 1; omega)
  obtain ⟨e1, e2⟩ := of_yes (okD_mk h0 hv (by omega : numD y 1 1 ≤ 40000))
  exact ⟨by omega, e2, b1, b2⟩
theorem of_within {y m d : Int} (h0 : 2000 ≤ y) (h1 : y ≤ 2107) (hv : vldB y m d = true) : ofC y m d = 0 ∧ yC y ≤ ofV y m d ∧ ofV y m d < yC (y + 1) := by
  have b := num_in_year hv
  have b2 := yC_le (y + 1) 2108 (by omega)
  rw [show yC 2108 = 39446 by decide] at b2
  obtain ⟨e1, e2⟩ := of_yes (okD_mk h0 hv (by omega : numD y m d ≤ 40000))
  rw [e1]
  exact ⟨e2, b⟩
theorem of_without {y m d : Int} (hv : vldB y m d = false) : ofV y m d = 0 ∧ ofC y m d = 103 := of_no (okD_no (by rw [hv]; simp))
/-- the table of the statement. -/
def mostN (m : Int) : Int := if m = 0 then 0 else if m = 2 then 28 else if m = 4 ∨ m = 6 ∨ m = 9 ∨ m = 11 then 30 else if m = 13 then 0 else 31
theorem mostN_at {m : Int} (h0 : 0 ≤ m) (h1 : m ≤ 13) : (#[.int .i64 0, .int .i64 31, .int .i64 28, .int .i64 31, .int .i64 30, .int .i64 31, .int .i64 30, .int .i64 31, .int .i64 31, .int .i64 30, .int .i64 31, .int .i64 30, .int .i64 31, .int .i64 0] : Array Value)[m.toNat]? = some (.int .i64 (mostN m)) := by
  have hc : m = 0 ∨ m = 1 ∨ m = 2 ∨ m = 3 ∨ m = 4 ∨ m = 5 ∨ m = 6 ∨ m = 7 ∨ m = 8 ∨ m = 9 ∨ m = 10 ∨ m = 11 ∨ m = 12 ∨ m = 13 := by omega
  rcases hc with rfl | rfl | rfl | rfl | rfl | rfl | rfl | rfl | rfl | rfl | rfl | rfl | rfl | rfl <;> rfl
theorem mostN_vld {y m d : Int} (h0 : 0 ≤ m) (h1 : m ≤ 13) (hd : 1 ≤ d) : vldB y m d = decide (d ≤ if m = 2 ∧ lpB y = true then 29 else mostN m) := by
  unfold vldB
  rw [Bool.eq_iff_iff, decide_eq_true_iff, decide_eq_true_iff]
  have hc : m = 0 ∨ m = 1 ∨ m = 2 ∨ m = 3 ∨ m = 4 ∨ m = 5 ∨ m = 6 ∨ m = 7 ∨ m = 8 ∨ m = 9 ∨ m = 10 ∨ m = 11 ∨ m = 12 ∨ m = 13 := by omega
  cases hl : lpB y <;> rcases hc with rfl | rfl | rfl | rfl | rfl | rfl | rfl | rfl | rfl | rfl | rfl | rfl | rfl | rfl <;> simp [dmo, mostN, hl] <;> omega
theorem errOf_range (A : Nat → Addr) : errOf A 103 = errAt (A 2) := rfl

set_option maxRecDepth 100000 in
set_option maxHeartbeats 8000000 in
theorem walk_dayYears (a b t : Int) (A : Nat → Addr) (w : World) (ha : -9223372036854775808 ≤ a) (ha2 : a ≤ 9223372036854775807) (hb : -9223372036854775808 ≤ b) (hb2 : b ≤ 9223372036854775807) (ht : -9223372036854775808 ≤ t) (ht2 : t ≤ 9223372036854775807) (hS : Sents w A) :
    Calls Tryd.prog 5 #[.int .i64 a, .int .i64 b, .int .i64 t] w fun e w' => e = .returned (.bool true) ∧ Below w.heap.size w w' := by
  have hF := hidden (law4_first A w (hS.on [2] (by decide)))
  have hE := hidden (fun w' (h : Below w.heap.size w w') => (hS.on [2] (by decide)).below h (Nat.le_refl _))
  have hI := hidden (fun w' (h : Below w.heap.size w w') => is_any A 103 103 w' (hS.below h (Nat.le_refl _)) (.inr ⟨by decide, by decide⟩))
  rw [errOf_range] at hI
  clear hS
  have hx := hidden (fun w => number_any a 108 w ha ha2 (by decide) (by decide))
  have hy := hidden (fun w => number_any b 14 w hb hb2 (by decide) (by decide))
  have hz := hidden (fun w => number_any t 33 w ht ht2 (by decide) (by decide))
  have x0 : 0 ≤ a % 108 := by omega
  have x1 : a % 108 ≤ 107 := by omega
  have y0 : 0 ≤ b % 14 := by omega
  have y1 : b % 14 ≤ 13 := by omega
  have z0 : 0 ≤ t % 33 := by omega
  have z1 : t % 33 ≤ 32 := by omega
  clear ha ha2 hb hb2 ht ht2
  generalize a % 108 = x at *
  generalize b % 14 = m at *
  generalize t % 33 = d at *
  go_enter Tryd.func5, Tryd.ntmps5
  go_wp2_with fail
  refine hF.out.mono ?_
  rintro e w1 ⟨rfl, hw⟩
  replace hw := hidden hw
  go_wp2_with (go_at_call 23; with_reducible refine (hx.out _).mono ?_; rintro e w' ⟨rfl, rfl⟩)
  obtain ⟨y, hxy⟩ : ∃ y, y = 2000 + x := ⟨_, rfl⟩
  rw [← hxy]
  have h0 : 2000 ≤ y := by omega
  have h1 : y ≤ 2107 := by omega
  clear hxy x0 x1 hx
  have n1 := hidden (of_newyear h0 (by omega))
  have n2 := hidden (of_newyear (show 2000 ≤ y + 1 by omega) (by omega))
  refine (dayOf_any A y 1 1 _ (hE.out _ hw.out) (by omega) (by omega)).mono ?_
  rw [n1.out.1, n1.out.2.1, errOf_fine]
  rintro e w2 ⟨rfl, hb⟩
  replace hw := hidden (hw.out.trans (hb.mono hw.out.size))
  clear hb
  go_wp2_with fail
  refine (dayOf_any A (y + 1) 1 1 _ (hE.out _ hw.out) (by omega) (by omega)).mono ?_
  rw [n2.out.1, n2.out.2.1, errOf_fine]
  rintro e w3 ⟨rfl, hb⟩
  replace hw := hidden (hw.out.trans (hb.mono hw.out.size))
  clear hb
  have hN := hidden (yC_next y)
  have hD := hidden (show dyr y = (if lpB y = true then 366 else 365) from rfl)
  have hof := hidden (dayOf_any A y m d)
  have hvn := hidden (fun h => mostN_vld (y := y) y0 y1 (d := d) h)
  have a0 := n1.out.2.2.1
  have a1 := n1.out.2.2.2
  have b1 := n2.out.2.2.2
  have hin := hidden (of_within (m := m) (d := d) h0 h1)
  have hout := hidden (of_without (y := y) (m := m) (d := d))
  have hmost := mostN_at y0 y1
  clear n1 n2
  generalize yC y = p at *
  generalize yC (y + 1) = q at *
  generalize ofV y m d = v at *
  generalize ofC y m d = c at *
  by_cases hd1 : 1 ≤ d
  · replace hvn := hidden (hvn.out hd1)
    cases hl : lpB y
    · by_cases hm : m = 2
      · subst hm
        have hr : vldB y 2 d = decide (d ≤ mostN 2) := by have := hvn.out; rw [hl] at this; simpa using this
        cases hv : vldB y 2 d
        · have hle : mostN 2 < d := by rw [hv] at hr; have := of_decide_eq_false hr.symm; omega
          have hdec : decide (d ≤ mostN 2) = false := hr.symm.trans hv
          clear hr
          rw [hl] at hD
          have q0 : 0 ≤ q := by have := hN.out; have := dyr_bd y; omega
          have hq : (q - p == 365) = true := by have := hN.out; have := hD.out; simp at this; rw [beq_iff_eq]; omega
          obtain ⟨rfl, rfl⟩ := hout.out hv
          clear hin hout hvn hv hN hD
          go_wp2_with (first
            | (go_at_call 17; refine (leap_any _ _ (by omega) (by omega)).mono ?_; rintro e w' ⟨rfl, rfl⟩)
            | (go_at_call 23; with_reducible refine (hy.out _).mono ?_; rintro e w' ⟨rfl, rfl⟩)
            | (go_at_call 23; with_reducible refine (hz.out _).mono ?_; rintro e w' ⟨rfl, rfl⟩))
          refine (hof.out _ (hE.out _ hw.out) (by omega) (by omega)).mono ?_
          rw [errOf_range]
          rintro e w4 ⟨rfl, hb⟩
          replace hw := hidden (hw.out.trans (hb.mono hw.out.size))
          clear hb
          go_wp2_with fail
          all_goals
            refine (hI.out _ (hw.out.trans (((Below.refl _ _).alloc (Nat.le_refl _) _).mono hw.out.size))).mono ?_
            rintro e w5 ⟨rfl, hb⟩
            have hw5 := hidden ((hw.out.trans (((Below.refl _ _).alloc (Nat.le_refl _) _).mono hw.out.size)).trans (hb.mono (Nat.le_trans hw.out.size (by simp))))
            clear hb
            go_wp2
            go_ret
            exact ⟨rfl, hw5.out⟩
        · have hle : d ≤ mostN 2 := by rw [hv] at hr; exact of_decide_eq_true hr.symm
          clear hr
          rw [hl] at hD
          have q0 : 0 ≤ q := by have := hN.out; have := dyr_bd y; omega
          have hq : (q - p == 365) = true := by have := hN.out; have := hD.out; simp at this; rw [beq_iff_eq]; omega
          obtain ⟨rfl, v0, v1⟩ := hin.out hv
          clear hin hout hvn hv hN hD
          go_wp2_with (first
            | (go_at_call 17; refine (leap_any _ _ (by omega) (by omega)).mono ?_; rintro e w' ⟨rfl, rfl⟩)
            | (go_at_call 23; with_reducible refine (hy.out _).mono ?_; rintro e w' ⟨rfl, rfl⟩)
            | (go_at_call 23; with_reducible refine (hz.out _).mono ?_; rintro e w' ⟨rfl, rfl⟩))
          refine (hof.out _ (hE.out _ hw.out) (by omega) (by omega)).mono ?_
          rw [errOf_fine]
          rintro e w4 ⟨rfl, hb⟩
          replace hw := hidden (hw.out.trans (hb.mono hw.out.size))
          clear hb
          go_wp2_with fail
          all_goals
            go_ret
            exact ⟨rfl, hw.out.trans (((Below.refl _ _).alloc (Nat.le_refl _) _).mono hw.out.size)⟩
      · have km : (m == 2) = false := beq_eq_false_iff_ne.2 hm
        have hr : vldB y m d = decide (d ≤ mostN m) := by have := hvn.out; rw [hl] at this; simpa using this
        cases hv : vldB y m d
        · have hle : mostN m < d := by rw [hv] at hr; have := of_decide_eq_false hr.symm; omega
          have hdec : decide (d ≤ mostN m) = false := hr.symm.trans hv
          clear hr
          rw [hl] at hD
          have q0 : 0 ≤ q := by have := hN.out; have := dyr_bd y; omega
          have hq : (q - p == 365) = true := by have := hN.out; have := hD.out; simp at this; rw [beq_iff_eq]; omega
          obtain ⟨rfl, rfl⟩ := hout.out hv
          clear hin hout hvn hv hN hD
          go_wp2_with (first
            | (go_at_call 17; refine (leap_any _ _ (by omega) (by omega)).mono ?_; rintro e w' ⟨rfl, rfl⟩)
            | (go_at_call 23; with_reducible refine (hy.out _).mono ?_; rintro e w' ⟨rfl, rfl⟩)
            | (go_at_call 23; with_reducible refine (hz.out _).mono ?_; rintro e w' ⟨rfl, rfl⟩))
          refine (hof.out _ (hE.out _ hw.out) (by omega) (by omega)).mono ?_
          rw [errOf_range]
          rintro e w4 ⟨rfl, hb⟩
          replace hw := hidden (hw.out.trans (hb.mono hw.out.size))
          clear hb
          go_wp2_with fail
          all_goals
            refine (hI.out _ (hw.out.trans (((Below.refl _ _).alloc (Nat.le_refl _) _).mono hw.out.size))).mono ?_
            rintro e w5 ⟨rfl, hb⟩
            have hw5 := hidden ((hw.out.trans (((Below.refl _ _).alloc (Nat.le_refl _) _).mono hw.out.size)).trans (hb.mono (Nat.le_trans hw.out.size (by simp))))
            clear hb
            go_wp2
            go_ret
            exact ⟨rfl, hw5.out⟩
        · have hle : d ≤ mostN m := by rw [hv] at hr; exact of_decide_eq_true hr.symm
          clear hr
          rw [hl] at hD
          have q0 : 0 ≤ q := by have := hN.out; have := dyr_bd y; omega
          have hq : (q - p == 365) = true := by have := hN.out; have := hD.out; simp at this; rw [beq_iff_eq]; omega
          obtain ⟨rfl, v0, v1⟩ := hin.out hv
          clear hin hout hvn hv hN hD
          go_wp2_with (first
            | (go_at_call 17; refine (leap_any _ _ (by omega) (by omega)).mono ?_; rintro e w' ⟨rfl, rfl⟩)
            | (go_at_call 23; with_reducible refine (hy.out _).mono ?_; rintro e w' ⟨rfl, rfl⟩)
            | (go_at_call 23; with_reducible refine (hz.out _).mono ?_; rintro e w' ⟨rfl, rfl⟩))
          refine (hof.out _ (hE.out _ hw.out) (by omega) (by omega)).mono ?_
          rw [errOf_fine]
          rintro e w4 ⟨rfl, hb⟩
          replace hw := hidden (hw.out.trans (hb.mono hw.out.size))
          clear hb
          go_wp2_with fail
          all_goals
            go_ret
            exact ⟨rfl, hw.out.trans (((Below.refl _ _).alloc (Nat.le_refl _) _).mono hw.out.size)⟩
    · by_cases hm : m = 2
      · subst hm
        have hr : vldB y 2 d = decide (d ≤ 29) := by have := hvn.out; rw [hl] at this; simpa using this
        cases hv : vldB y 2 d
        · have hle : 29 < d := by rw [hv] at hr; have := of_decide_eq_false hr.symm; omega
          have hdec : decide (d ≤ 29) = false := hr.symm.trans hv
          clear hr
          rw [hl] at hD
          have q0 : 0 ≤ q := by have := hN.out; have := dyr_bd y; omega
          have hq : (q - p == 366) = true := by have := hN.out; have := hD.out; simp at this; rw [beq_iff_eq]; omega
          obtain ⟨rfl, rfl⟩ := hout.out hv
          clear hin hout hvn hv hN hD
          go_wp2_with (first
            | (go_at_call 17; refine (leap_any _ _ (by omega) (by omega)).mono ?_; rintro e w' ⟨rfl, rfl⟩)
            | (go_at_call 23; with_reducible refine (hy.out _).mono ?_; rintro e w' ⟨rfl, rfl⟩)
            | (go_at_call 23; with_reducible refine (hz.out _).mono ?_; rintro e w' ⟨rfl, rfl⟩))
          refine (hof.out _ (hE.out _ hw.out) (by omega) (by omega)).mono ?_
          rw [errOf_range]
          rintro e w4 ⟨rfl, hb⟩
          replace hw := hidden (hw.out.trans (hb.mono hw.out.size))
          clear hb
          go_wp2_with fail
          all_goals
            refine (hI.out _ (hw.out.trans (((Below.refl _ _).alloc (Nat.le_refl _) _).mono hw.out.size))).mono ?_
            rintro e w5 ⟨rfl, hb⟩
            have hw5 := hidden ((hw.out.trans (((Below.refl _ _).alloc (Nat.le_refl _) _).mono hw.out.size)).trans (hb.mono (Nat.le_trans hw.out.size (by simp))))
            clear hb
            go_wp2
            go_ret
            exact ⟨rfl, hw5.out⟩
        · have hle : d ≤ 29 := by rw [hv] at hr; exact of_decide_eq_true hr.symm
          clear hr
          rw [hl] at hD
          have q0 : 0 ≤ q := by have := hN.out; have := dyr_bd y; omega
          have hq : (q - p == 366) = true := by have := hN.out; have := hD.out; simp at this; rw [beq_iff_eq]; omega
          obtain ⟨rfl, v0, v1⟩ := hin.out hv
          clear hin hout hvn hv hN hD
          go_wp2_with (first
            | (go_at_call 17; refine (leap_any _ _ (by omega) (by omega)).mono ?_; rintro e w' ⟨rfl, rfl⟩)
            | (go_at_call 23; with_reducible refine (hy.out _).mono ?_; rintro e w' ⟨rfl, rfl⟩)
            | (go_at_call 23; with_reducible refine (hz.out _).mono ?_; rintro e w' ⟨rfl, rfl⟩))
          refine (hof.out _ (hE.out _ hw.out) (by omega) (by omega)).mono ?_
          rw [errOf_fine]
          rintro e w4 ⟨rfl, hb⟩
          replace hw := hidden (hw.out.trans (hb.mono hw.out.size))
          clear hb
          go_wp2_with fail
          all_goals
            go_ret
            exact ⟨rfl, hw.out.trans (((Below.refl _ _).alloc (Nat.le_refl _) _).mono hw.out.size)⟩
      · have hr : vldB y m d = decide (d ≤ mostN m) := by have := hvn.out; simpa [hm] using this
        have km : (m == 2) = false := beq_eq_false_iff_ne.2 hm
        cases hv : vldB y m d
        · have hle : mostN m < d := by rw [hv] at hr; have := of_decide_eq_false hr.symm; omega
          have hdec : decide (d ≤ mostN m) = false := hr.symm.trans hv
          clear hr
          rw [hl] at hD
          have q0 : 0 ≤ q := by have := hN.out; have := dyr_bd y; omega
          have hq : (q - p == 366) = true := by have := hN.out; have := hD.out; simp at this; rw [beq_iff_eq]; omega
          obtain ⟨rfl, rfl⟩ := hout.out hv
          clear hin hout hvn hv hN hD
          go_wp2_with (first
            | (go_at_call 17; refine (leap_any _ _ (by omega) (by omega)).mono ?_; rintro e w' ⟨rfl, rfl⟩)
            | (go_at_call 23; with_reducible refine (hy.out _).mono ?_; rintro e w' ⟨rfl, rfl⟩)
            | (go_at_call 23; with_reducible refine (hz.out _).mono ?_; rintro e w' ⟨rfl, rfl⟩))
          refine (hof.out _ (hE.out _ hw.out) (by omega) (by omega)).mono ?_
          rw [errOf_range]
          rintro e w4 ⟨rfl, hb⟩
          replace hw := hidden (hw.out.trans (hb.mono hw.out.size))
          clear hb
          go_wp2_with fail
          all_goals
            refine (hI.out _ (hw.out.trans (((Below.refl _ _).alloc (Nat.le_refl _) _).mono hw.out.size))).mono ?_
            rintro e w5 ⟨rfl, hb⟩
            have hw5 := hidden ((hw.out.trans (((Below.refl _ _).alloc (Nat.le_refl _) _).mono hw.out.size)).trans (hb.mono (Nat.le_trans hw.out.size (by simp))))
            clear hb
            go_wp2
            go_ret
            exact ⟨rfl, hw5.out⟩
        · have hle : d ≤ mostN m := by rw [hv] at hr; exact of_decide_eq_true hr.symm
          clear hr
          rw [hl] at hD
          have q0 : 0 ≤ q := by have := hN.out; have := dyr_bd y; omega
          have hq : (q - p == 366) = true := by have := hN.out; have := hD.out; simp at this; rw [beq_iff_eq]; omega
          obtain ⟨rfl, v0, v1⟩ := hin.out hv
          clear hin hout hvn hv hN hD
          go_wp2_with (first
            | (go_at_call 17; refine (leap_any _ _ (by omega) (by omega)).mono ?_; rintro e w' ⟨rfl, rfl⟩)
            | (go_at_call 23; with_reducible refine (hy.out _).mono ?_; rintro e w' ⟨rfl, rfl⟩)
            | (go_at_call 23; with_reducible refine (hz.out _).mono ?_; rintro e w' ⟨rfl, rfl⟩))
          refine (hof.out _ (hE.out _ hw.out) (by omega) (by omega)).mono ?_
          rw [errOf_fine]
          rintro e w4 ⟨rfl, hb⟩
          replace hw := hidden (hw.out.trans (hb.mono hw.out.size))
          clear hb
          go_wp2_with fail
          all_goals
            go_ret
            exact ⟨rfl, hw.out.trans (((Below.refl _ _).alloc (Nat.le_refl _) _).mono hw.out.size)⟩
  · have hv : vldB y m d = false := vld_no (by omega)
    have hdec : decide (1 ≤ d) = false := decide_eq_false hd1
    cases hl : lpB y
    · skip
      rw [hl] at hD
      have q0 : 0 ≤ q := by have := hN.out; have := dyr_bd y; omega
      have hq : (q - p == 365) = true := by have := hN.out; have := hD.out; simp at this; rw [beq_iff_eq]; omega
      obtain ⟨rfl, rfl⟩ := hout.out hv
      clear hin hout hvn hv hN hD
      go_wp2_with (first
        | (go_at_call 17; refine (leap_any _ _ (by omega) (by omega)).mono ?_; rintro e w' ⟨rfl, rfl⟩)
        | (go_at_call 23; with_reducible refine (hy.out _).mono ?_; rintro e w' ⟨rfl, rfl⟩)
        | (go_at_call 23; with_reducible refine (hz.out _).mono ?_; rintro e w' ⟨rfl, rfl⟩))
      refine (hof.out _ (hE.out _ hw.out) (by omega) (by omega)).mono ?_
      rw [errOf_range]
      rintro e w4 ⟨rfl, hb⟩
      replace hw := hidden (hw.out.trans (hb.mono hw.out.size))
      clear hb
      go_wp2_with fail
      all_goals
        refine (hI.out _ (hw.out.trans (((Below.refl _ _).alloc (Nat.le_refl _) _).mono hw.out.size))).mono ?_
        rintro e w5 ⟨rfl, hb⟩
        have hw5 := hidden ((hw.out.trans (((Below.refl _ _).alloc (Nat.le_refl _) _).mono hw.out.size)).trans (hb.mono (Nat.le_trans hw.out.size (by simp))))
        clear hb
        go_wp2
        go_ret
        exact ⟨rfl, hw5.out⟩
    · skip
      rw [hl] at hD
      have q0 : 0 ≤ q := by have := hN.out; have := dyr_bd y; omega
      have hq : (q - p == 366) = true := by have := hN.out; have := hD.out; simp at this; rw [beq_iff_eq]; omega
      obtain ⟨rfl, rfl⟩ := hout.out hv
      clear hin hout hvn hv hN hD
      go_wp2_with (first
        | (go_at_call 17; refine (leap_any _ _ (by omega) (by omega)).mono ?_; rintro e w' ⟨rfl, rfl⟩)
        | (go_at_call 23; with_reducible refine (hy.out _).mono ?_; rintro e w' ⟨rfl, rfl⟩)
        | (go_at_call 23; with_reducible refine (hz.out _).mono ?_; rintro e w' ⟨rfl, rfl⟩))
      refine (hof.out _ (hE.out _ hw.out) (by omega) (by omega)).mono ?_
      rw [errOf_range]
      rintro e w4 ⟨rfl, hb⟩
      replace hw := hidden (hw.out.trans (hb.mono hw.out.size))
      clear hb
      go_wp2_with fail
      all_goals
        refine (hI.out _ (hw.out.trans (((Below.refl _ _).alloc (Nat.le_refl _) _).mono hw.out.size))).mono ?_
        rintro e w5 ⟨rfl, hb⟩
        have hw5 := hidden ((hw.out.trans (((Below.refl _ _).alloc (Nat.le_refl _) _).mono hw.out.size)).trans (hb.mono (Nat.le_trans hw.out.size (by simp))))
        clear hb
        go_wp2
        go_ret
        exact ⟨rfl, hw5.out⟩
end Go.Proofs.YtlfaffffkinigaaDoor
