/-
  The document's own operations (pledgeref26): Valid.
-/
import Derived.Test.YtongpgnnhpbcpaaGreatDoorOpRef1
import Derived.Test.YtongpgnnhpbcpaaGreatDoorOpRef1b
import Derived.Deep.CutBlock
import Derived.Test.YtongpgnnhpbcpaaGreatDoorOp3
namespace Go.Proofs.YtongpgnnhpbcpaaGreatDoor
open Go.RowKit
set_option linter.unusedVariables false

set_option maxRecDepth 100000 in
set_option maxHeartbeats 6400000 in
theorem refValid25 (o : Opv) (w : World) : Calls Tryz.prog 5 #[opV o] w fun e w' => e = .returned (.int .i64 (opE o)) ∧ Below w.heap.size w w' := by
  have hw1 := hidden (show Below w.heap.size w (w.alloc (opO o)) from (Below.refl _ _).alloc (Nat.le_refl _) _)
  have hro := hidden (show OpAt (w.alloc (opO o)) w.heap.size o from ⟨heap_alloc_new w _⟩)
  have hsz := hidden (show (w.alloc (opO o)).heap.size = w.heap.size + 1 by simp)
  by_cases hid : 1 ≤ o.id ∧ o.id ≤ 1099511627776
  · by_cases hkd : 1 ≤ o.kd ∧ o.kd ≤ 16
    · obtain ⟨K, hK⟩ := Int.eq_ofNat_of_zero_le (show 0 ≤ o.kd by omega)
      replace hK : o.kd = (K : Int) := hK
      have hK1 := hidden (show 1 ≤ K ∧ K ≤ 16 by omega)
      have hU := hidden (fun W => refUses_any o.kd W)
      rw [show usV o.kd = useS K from by rw [hK]; exact usV_in hK1.out.1 hK1.out.2] at hU
      have hFd := hidden (fun k hk W => refField_any o k hk W)
      have hH := hidden (fun k (hk : k < 6) W => refHas_any (useS K) (letL.getD k 0) W (by have := (use_len hK1.out.2).1; simp [useS]; omega))
      have hbad := hidden (fun i (hi : i < 6) (h : decide (0 ≤ fo o i ∧ fo o i ≤ mxF K i) = false) => op_fd (o := o) hid hkd hi (by rw [fd_parts hK i]; exact h))
      have hgood := hidden (fun (h : ∀ i, i < 6 → decide (0 ≤ fo o i ∧ fo o i ≤ mxF K i) = true) => (op_fine (o := o)).2 ⟨hid, hkd, fun i hi => by rw [fd_parts hK i]; exact h i hi⟩)
      have hin := hidden (fun k (hk : k < 6) => ref_in hK1.out.2 hk)
      have hid1 := hid.1
      have hid2 := hid.2
      have hkd1 := hkd.1
      have hkd2 := hkd.2
      obtain ⟨q0, q1, q2, q3, q4, q5, q6, q7⟩ := hro.out.cells
      replace hK := hidden hK
      generalize opE o = q at *
      generalize fo o = f at *
      clear hid hkd
      go_enter Tryz.func5, Tryz.ntmps5
      go_wp2_with fail
      refine (hU.out _).mono ?_
      rintro e w' ⟨rfl, rfl⟩
      go_wp2_with fail
      generalize w.alloc (opO o) = w1 at *
      clear hU hid1 hid2 hkd1 hkd2 q0 q1 q2 q3 q4 q5 q6 q7
      go_loopw [5] (fun i wr => VaRel f K w1 i wr) (fun i _ => 6 - (intOf i).toNat)
      case atStart => exact ⟨0, by decide, rfl, fun j hj => by omega, Below.refl _ _⟩
      case round =>
        obtain ⟨k, hk, rfl, hj, hb⟩ := hrel
        replace hj := hidden hj
        have hr2 := hidden (hro.out.below hb)
        replace hb := hidden hb
        obtain ⟨q0, q1, q2, q3, q4, q5, q6, q7⟩ := hr2.out.cells
        have h6 : k = 0 ∨ k = 1 ∨ k = 2 ∨ k = 3 ∨ k = 4 ∨ k = 5 ∨ k = 6 := by omega
        rcases h6 with rfl | rfl | rfl | rfl | rfl | rfl | rfl
        · have hnew := hidden (fun (h : decide (0 ≤ f 0 ∧ f 0 ≤ mxF K 0) = true) => show ∀ j, j < 0 + 1 → decide (0 ≤ f j ∧ f j ≤ mxF K j) = true from fun j hjk => by
            rcases Nat.lt_or_ge j 0 with h2 | h2
            · exact hj.out j h2
            · obtain rfl : j = 0 := by omega
              exact h)
          have hmx : mxF K 0 = if usB K 0 = true then 1048576 else 0 := rfl
          have hb6 := hidden (hbad.out 0 (by decide))
          have hHk := hidden (fun W => hH.out 0 (by decide) W)
          rw [hin.out 0 (by decide)] at hHk
          rw [hmx] at hnew hb6
          clear hmx
          generalize usB K 0 = b at *
          go_upto_region 10 with (fail)
          go_cut [6] (fun v wx => v = .int .i64 (f 0) ∧ Below w1.heap.size w1 wx)
          case first =>
            go_region_with (go_at_call 22; refine (hFd.out 0 (by decide) _).mono ?_; rintro e' w3 ⟨rfl, hb3⟩; have hbq := hidden (hb.out.drew.trans (hb3.mono hb.out.drew.size)))
            all_goals (go_wp2_with fail; go_meet; exact ⟨rfl, hbq.out⟩)
          case rest =>
          obtain ⟨rfl, hbc⟩ := hcut
          replace hb := hidden hbc
          clear hbc q0 q1 q2 q3 q4 q5 q6 q7 hFd hH hin
          generalize hx : f 0 = x at *
          replace hx := hidden hx
          by_cases h0 : x < 0
          · have hq := hidden (hb6.out (decide_eq_false (by omega)))
            clear hb6 hnew hHk
            go_wp2
            go_ret
            exact ⟨by rw [hq.out]; rfl, hw1.out.trans (hb.out.mono (by rw [hsz.out]; omega))⟩
          · by_cases h1 : 1048576 < x
            · have hq := hidden (hb6.out (decide_eq_false (by split <;> omega)))
              clear hb6 hnew hHk
              go_wp2
              go_ret
              exact ⟨by rw [hq.out]; rfl, hw1.out.trans (hb.out.mono (by rw [hsz.out]; omega))⟩
            · by_cases hz : x = 0
              · have hq := hidden (hnew.out (decide_eq_true (by split <;> omega)))
                have hz2 : (x == 0) = true := by rw [beq_iff_eq]; exact hz
                replace hz := hidden hz
                clear hb6 hnew hHk
                go_wp2
                go_roundw
                case rel => exact ⟨0 + 1, by decide, by go_num, hq.out, hb.out⟩
                case measure => simp [intOf]
              · have hz2 : (x == 0) = false := by rw [beq_eq_false_iff_ne]; exact hz
                cases b with
                | true =>
                  have hq := hidden (hnew.out (decide_eq_true (by rw [if_pos rfl]; omega)))
                  replace hz := hidden hz
                  clear hb6 hnew
                  go_wp2_with fail
                  refine (hHk.out _).mono ?_
                  rintro e w' ⟨rfl, rfl⟩
                  go_wp2
                  go_roundw
                  case rel => exact ⟨0 + 1, by decide, by go_num, hq.out, hb.out⟩
                  case measure => simp [intOf]
                | false =>
                  have hq := hidden (hb6.out (decide_eq_false (by rw [if_neg (by decide)]; omega)))
                  replace hz := hidden hz
                  clear hb6 hnew
                  go_wp2_with fail
                  refine (hHk.out _).mono ?_
                  rintro e w' ⟨rfl, rfl⟩
                  go_wp2
                  go_ret
                  exact ⟨by rw [hq.out]; rfl, hw1.out.trans (hb.out.mono (by rw [hsz.out]; omega))⟩
        · have hnew := hidden (fun (h : decide (0 ≤ f 1 ∧ f 1 ≤ mxF K 1) = true) => show ∀ j, j < 1 + 1 → decide (0 ≤ f j ∧ f j ≤ mxF K j) = true from fun j hjk => by
            rcases Nat.lt_or_ge j 1 with h2 | h2
            · exact hj.out j h2
            · obtain rfl : j = 1 := by omega
              exact h)
          have hmx : mxF K 1 = if usB K 1 = true then 1048576 else 0 := rfl
          have hb6 := hidden (hbad.out 1 (by decide))
          have hHk := hidden (fun W => hH.out 1 (by decide) W)
          rw [hin.out 1 (by decide)] at hHk
          rw [hmx] at hnew hb6
          clear hmx
          generalize usB K 1 = b at *
          go_upto_region 10 with (fail)
          go_cut [6] (fun v wx => v = .int .i64 (f 1) ∧ Below w1.heap.size w1 wx)
          case first =>
            go_region_with (go_at_call 22; refine (hFd.out 1 (by decide) _).mono ?_; rintro e' w3 ⟨rfl, hb3⟩; have hbq := hidden (hb.out.drew.trans (hb3.mono hb.out.drew.size)))
            all_goals (go_wp2_with fail; go_meet; exact ⟨rfl, hbq.out⟩)
          case rest =>
          obtain ⟨rfl, hbc⟩ := hcut
          replace hb := hidden hbc
          clear hbc q0 q1 q2 q3 q4 q5 q6 q7 hFd hH hin
          generalize hx : f 1 = x at *
          replace hx := hidden hx
          by_cases h0 : x < 0
          · have hq := hidden (hb6.out (decide_eq_false (by omega)))
            clear hb6 hnew hHk
            go_wp2
            go_ret
            exact ⟨by rw [hq.out]; rfl, hw1.out.trans (hb.out.mono (by rw [hsz.out]; omega))⟩
          · by_cases h1 : 1048576 < x
            · have hq := hidden (hb6.out (decide_eq_false (by split <;> omega)))
              clear hb6 hnew hHk
              go_wp2
              go_ret
              exact ⟨by rw [hq.out]; rfl, hw1.out.trans (hb.out.mono (by rw [hsz.out]; omega))⟩
            · by_cases hz : x = 0
              · have hq := hidden (hnew.out (decide_eq_true (by split <;> omega)))
                have hz2 : (x == 0) = true := by rw [beq_iff_eq]; exact hz
                replace hz := hidden hz
                clear hb6 hnew hHk
                go_wp2
                go_roundw
                case rel => exact ⟨1 + 1, by decide, by go_num, hq.out, hb.out⟩
                case measure => simp [intOf]
              · have hz2 : (x == 0) = false := by rw [beq_eq_false_iff_ne]; exact hz
                cases b with
                | true =>
                  have hq := hidden (hnew.out (decide_eq_true (by rw [if_pos rfl]; omega)))
                  replace hz := hidden hz
                  clear hb6 hnew
                  go_wp2_with fail
                  refine (hHk.out _).mono ?_
                  rintro e w' ⟨rfl, rfl⟩
                  go_wp2
                  go_roundw
                  case rel => exact ⟨1 + 1, by decide, by go_num, hq.out, hb.out⟩
                  case measure => simp [intOf]
                | false =>
                  have hq := hidden (hb6.out (decide_eq_false (by rw [if_neg (by decide)]; omega)))
                  replace hz := hidden hz
                  clear hb6 hnew
                  go_wp2_with fail
                  refine (hHk.out _).mono ?_
                  rintro e w' ⟨rfl, rfl⟩
                  go_wp2
                  go_ret
                  exact ⟨by rw [hq.out]; rfl, hw1.out.trans (hb.out.mono (by rw [hsz.out]; omega))⟩
        · have hnew := hidden (fun (h : decide (0 ≤ f 2 ∧ f 2 ≤ mxF K 2) = true) => show ∀ j, j < 2 + 1 → decide (0 ≤ f j ∧ f j ≤ mxF K j) = true from fun j hjk => by
            rcases Nat.lt_or_ge j 2 with h2 | h2
            · exact hj.out j h2
            · obtain rfl : j = 2 := by omega
              exact h)
          have hmx : mxF K 2 = if usB K 2 = true then 1048576 else 0 := rfl
          have hb6 := hidden (hbad.out 2 (by decide))
          have hHk := hidden (fun W => hH.out 2 (by decide) W)
          rw [hin.out 2 (by decide)] at hHk
          rw [hmx] at hnew hb6
          clear hmx
          generalize usB K 2 = b at *
          go_upto_region 10 with (fail)
          go_cut [6] (fun v wx => v = .int .i64 (f 2) ∧ Below w1.heap.size w1 wx)
          case first =>
            go_region_with (go_at_call 22; refine (hFd.out 2 (by decide) _).mono ?_; rintro e' w3 ⟨rfl, hb3⟩; have hbq := hidden (hb.out.drew.trans (hb3.mono hb.out.drew.size)))
            all_goals (go_wp2_with fail; go_meet; exact ⟨rfl, hbq.out⟩)
          case rest =>
          obtain ⟨rfl, hbc⟩ := hcut
          replace hb := hidden hbc
          clear hbc q0 q1 q2 q3 q4 q5 q6 q7 hFd hH hin
          generalize hx : f 2 = x at *
          replace hx := hidden hx
          by_cases h0 : x < 0
          · have hq := hidden (hb6.out (decide_eq_false (by omega)))
            clear hb6 hnew hHk
            go_wp2
            go_ret
            exact ⟨by rw [hq.out]; rfl, hw1.out.trans (hb.out.mono (by rw [hsz.out]; omega))⟩
          · by_cases h1 : 1048576 < x
            · have hq := hidden (hb6.out (decide_eq_false (by split <;> omega)))
              clear hb6 hnew hHk
              go_wp2
              go_ret
              exact ⟨by rw [hq.out]; rfl, hw1.out.trans (hb.out.mono (by rw [hsz.out]; omega))⟩
            · by_cases hz : x = 0
              · have hq := hidden (hnew.out (decide_eq_true (by split <;> omega)))
                have hz2 : (x == 0) = true := by rw [beq_iff_eq]; exact hz
                replace hz := hidden hz
                clear hb6 hnew hHk
                go_wp2
                go_roundw
                case rel => exact ⟨2 + 1, by decide, by go_num, hq.out, hb.out⟩
                case measure => simp [intOf]
              · have hz2 : (x == 0) = false := by rw [beq_eq_false_iff_ne]; exact hz
                cases b with
                | true =>
                  have hq := hidden (hnew.out (decide_eq_true (by rw [if_pos rfl]; omega)))
                  replace hz := hidden hz
                  clear hb6 hnew
                  go_wp2_with fail
                  refine (hHk.out _).mono ?_
                  rintro e w' ⟨rfl, rfl⟩
                  go_wp2
                  go_roundw
                  case rel => exact ⟨2 + 1, by decide, by go_num, hq.out, hb.out⟩
                  case measure => simp [intOf]
                | false =>
                  have hq := hidden (hb6.out (decide_eq_false (by rw [if_neg (by decide)]; omega)))
                  replace hz := hidden hz
                  clear hb6 hnew
                  go_wp2_with fail
                  refine (hHk.out _).mono ?_
                  rintro e w' ⟨rfl, rfl⟩
                  go_wp2
                  go_ret
                  exact ⟨by rw [hq.out]; rfl, hw1.out.trans (hb.out.mono (by rw [hsz.out]; omega))⟩
        · have hnew := hidden (fun (h : decide (0 ≤ f 3 ∧ f 3 ≤ mxF K 3) = true) => show ∀ j, j < 3 + 1 → decide (0 ≤ f j ∧ f j ≤ mxF K j) = true from fun j hjk => by
            rcases Nat.lt_or_ge j 3 with h2 | h2
            · exact hj.out j h2
            · obtain rfl : j = 3 := by omega
              exact h)
          have hmx : mxF K 3 = if usB K 3 = true then 1048576 else 0 := rfl
          have hb6 := hidden (hbad.out 3 (by decide))
          have hHk := hidden (fun W => hH.out 3 (by decide) W)
          rw [hin.out 3 (by decide)] at hHk
          rw [hmx] at hnew hb6
          clear hmx
          generalize usB K 3 = b at *
          go_upto_region 10 with (fail)
          go_cut [6] (fun v wx => v = .int .i64 (f 3) ∧ Below w1.heap.size w1 wx)
          case first =>
            go_region_with (go_at_call 22; refine (hFd.out 3 (by decide) _).mono ?_; rintro e' w3 ⟨rfl, hb3⟩; have hbq := hidden (hb.out.drew.trans (hb3.mono hb.out.drew.size)))
            all_goals (go_wp2_with fail; go_meet; exact ⟨rfl, hbq.out⟩)
          case rest =>
          obtain ⟨rfl, hbc⟩ := hcut
          replace hb := hidden hbc
          clear hbc q0 q1 q2 q3 q4 q5 q6 q7 hFd hH hin
          generalize hx : f 3 = x at *
          replace hx := hidden hx
          by_cases h0 : x < 0
          · have hq := hidden (hb6.out (decide_eq_false (by omega)))
            clear hb6 hnew hHk
            go_wp2
            go_ret
            exact ⟨by rw [hq.out]; rfl, hw1.out.trans (hb.out.mono (by rw [hsz.out]; omega))⟩
          · by_cases h1 : 1048576 < x
            · have hq := hidden (hb6.out (decide_eq_false (by split <;> omega)))
              clear hb6 hnew hHk
              go_wp2
              go_ret
              exact ⟨by rw [hq.out]; rfl, hw1.out.trans (hb.out.mono (by rw [hsz.out]; omega))⟩
            · by_cases hz : x = 0
              · have hq := hidden (hnew.out (decide_eq_true (by split <;> omega)))
                have hz2 : (x == 0) = true := by rw [beq_iff_eq]; exact hz
                replace hz := hidden hz
                clear hb6 hnew hHk
                go_wp2
                go_roundw
                case rel => exact ⟨3 + 1, by decide, by go_num, hq.out, hb.out⟩
                case measure => simp [intOf]
              · have hz2 : (x == 0) = false := by rw [beq_eq_false_iff_ne]; exact hz
                cases b with
                | true =>
                  have hq := hidden (hnew.out (decide_eq_true (by rw [if_pos rfl]; omega)))
                  replace hz := hidden hz
                  clear hb6 hnew
                  go_wp2_with fail
                  refine (hHk.out _).mono ?_
                  rintro e w' ⟨rfl, rfl⟩
                  go_wp2
                  go_roundw
                  case rel => exact ⟨3 + 1, by decide, by go_num, hq.out, hb.out⟩
                  case measure => simp [intOf]
                | false =>
                  have hq := hidden (hb6.out (decide_eq_false (by rw [if_neg (by decide)]; omega)))
                  replace hz := hidden hz
                  clear hb6 hnew
                  go_wp2_with fail
                  refine (hHk.out _).mono ?_
                  rintro e w' ⟨rfl, rfl⟩
                  go_wp2
                  go_ret
                  exact ⟨by rw [hq.out]; rfl, hw1.out.trans (hb.out.mono (by rw [hsz.out]; omega))⟩
        · have hnew := hidden (fun (h : decide (0 ≤ f 4 ∧ f 4 ≤ mxF K 4) = true) => show ∀ j, j < 4 + 1 → decide (0 ≤ f j ∧ f j ≤ mxF K j) = true from fun j hjk => by
            rcases Nat.lt_or_ge j 4 with h2 | h2
            · exact hj.out j h2
            · obtain rfl : j = 4 := by omega
              exact h)
          have hmx : mxF K 4 = if usB K 4 = true then 1000000000000000 else 0 := rfl
          have hb6 := hidden (hbad.out 4 (by decide))
          have hHk := hidden (fun W => hH.out 4 (by decide) W)
          rw [hin.out 4 (by decide)] at hHk
          rw [hmx] at hnew hb6
          clear hmx
          generalize usB K 4 = b at *
          go_upto_region 10 with (fail)
          go_cut [6] (fun v wx => v = .int .i64 (f 4) ∧ Below w1.heap.size w1 wx)
          case first =>
            go_region_with (go_at_call 22; refine (hFd.out 4 (by decide) _).mono ?_; rintro e' w3 ⟨rfl, hb3⟩; have hbq := hidden (hb.out.drew.trans (hb3.mono hb.out.drew.size)))
            all_goals (go_wp2_with fail; go_meet; exact ⟨rfl, hbq.out⟩)
          case rest =>
          obtain ⟨rfl, hbc⟩ := hcut
          replace hb := hidden hbc
          clear hbc q0 q1 q2 q3 q4 q5 q6 q7 hFd hH hin
          generalize hx : f 4 = x at *
          replace hx := hidden hx
          by_cases h0 : x < 0
          · have hq := hidden (hb6.out (decide_eq_false (by omega)))
            clear hb6 hnew hHk
            go_wp2
            go_ret
            exact ⟨by rw [hq.out]; rfl, hw1.out.trans (hb.out.mono (by rw [hsz.out]; omega))⟩
          · by_cases h1 : 1000000000000000 < x
            · have hq := hidden (hb6.out (decide_eq_false (by split <;> omega)))
              clear hb6 hnew hHk
              go_wp2
              go_ret
              exact ⟨by rw [hq.out]; rfl, hw1.out.trans (hb.out.mono (by rw [hsz.out]; omega))⟩
            · by_cases hz : x = 0
              · have hq := hidden (hnew.out (decide_eq_true (by split <;> omega)))
                have hz2 : (x == 0) = true := by rw [beq_iff_eq]; exact hz
                replace hz := hidden hz
                clear hb6 hnew hHk
                go_wp2
                go_roundw
                case rel => exact ⟨4 + 1, by decide, by go_num, hq.out, hb.out⟩
                case measure => simp [intOf]
              · have hz2 : (x == 0) = false := by rw [beq_eq_false_iff_ne]; exact hz
                cases b with
                | true =>
                  have hq := hidden (hnew.out (decide_eq_true (by rw [if_pos rfl]; omega)))
                  replace hz := hidden hz
                  clear hb6 hnew
                  go_wp2_with fail
                  refine (hHk.out _).mono ?_
                  rintro e w' ⟨rfl, rfl⟩
                  go_wp2
                  go_roundw
                  case rel => exact ⟨4 + 1, by decide, by go_num, hq.out, hb.out⟩
                  case measure => simp [intOf]
                | false =>
                  have hq := hidden (hb6.out (decide_eq_false (by rw [if_neg (by decide)]; omega)))
                  replace hz := hidden hz
                  clear hb6 hnew
                  go_wp2_with fail
                  refine (hHk.out _).mono ?_
                  rintro e w' ⟨rfl, rfl⟩
                  go_wp2
                  go_ret
                  exact ⟨by rw [hq.out]; rfl, hw1.out.trans (hb.out.mono (by rw [hsz.out]; omega))⟩
        · have hnew := hidden (fun (h : decide (0 ≤ f 5 ∧ f 5 ≤ mxF K 5) = true) => show ∀ j, j < 5 + 1 → decide (0 ≤ f j ∧ f j ≤ mxF K j) = true from fun j hjk => by
            rcases Nat.lt_or_ge j 5 with h2 | h2
            · exact hj.out j h2
            · obtain rfl : j = 5 := by omega
              exact h)
          have hmx : mxF K 5 = if usB K 5 = true then 1000000000000000 else 0 := rfl
          have hb6 := hidden (hbad.out 5 (by decide))
          have hHk := hidden (fun W => hH.out 5 (by decide) W)
          rw [hin.out 5 (by decide)] at hHk
          rw [hmx] at hnew hb6
          clear hmx
          generalize usB K 5 = b at *
          go_upto_region 10 with (fail)
          go_cut [6] (fun v wx => v = .int .i64 (f 5) ∧ Below w1.heap.size w1 wx)
          case first =>
            go_region_with (go_at_call 22; refine (hFd.out 5 (by decide) _).mono ?_; rintro e' w3 ⟨rfl, hb3⟩; have hbq := hidden (hb.out.drew.trans (hb3.mono hb.out.drew.size)))
            all_goals (go_wp2_with fail; go_meet; exact ⟨rfl, hbq.out⟩)
          case rest =>
          obtain ⟨rfl, hbc⟩ := hcut
          replace hb := hidden hbc
          clear hbc q0 q1 q2 q3 q4 q5 q6 q7 hFd hH hin
          generalize hx : f 5 = x at *
          replace hx := hidden hx
          by_cases h0 : x < 0
          · have hq := hidden (hb6.out (decide_eq_false (by omega)))
            clear hb6 hnew hHk
            go_wp2
            go_ret
            exact ⟨by rw [hq.out]; rfl, hw1.out.trans (hb.out.mono (by rw [hsz.out]; omega))⟩
          · by_cases h1 : 1000000000000000 < x
            · have hq := hidden (hb6.out (decide_eq_false (by split <;> omega)))
              clear hb6 hnew hHk
              go_wp2
              go_ret
              exact ⟨by rw [hq.out]; rfl, hw1.out.trans (hb.out.mono (by rw [hsz.out]; omega))⟩
            · by_cases hz : x = 0
              · have hq := hidden (hnew.out (decide_eq_true (by split <;> omega)))
                have hz2 : (x == 0) = true := by rw [beq_iff_eq]; exact hz
                replace hz := hidden hz
                clear hb6 hnew hHk
                go_wp2
                go_roundw
                case rel => exact ⟨5 + 1, by decide, by go_num, hq.out, hb.out⟩
                case measure => simp [intOf]
              · have hz2 : (x == 0) = false := by rw [beq_eq_false_iff_ne]; exact hz
                cases b with
                | true =>
                  have hq := hidden (hnew.out (decide_eq_true (by rw [if_pos rfl]; omega)))
                  replace hz := hidden hz
                  clear hb6 hnew
                  go_wp2_with fail
                  refine (hHk.out _).mono ?_
                  rintro e w' ⟨rfl, rfl⟩
                  go_wp2
                  go_roundw
                  case rel => exact ⟨5 + 1, by decide, by go_num, hq.out, hb.out⟩
                  case measure => simp [intOf]
                | false =>
                  have hq := hidden (hb6.out (decide_eq_false (by rw [if_neg (by decide)]; omega)))
                  replace hz := hidden hz
                  clear hb6 hnew
                  go_wp2_with fail
                  refine (hHk.out _).mono ?_
                  rintro e w' ⟨rfl, rfl⟩
                  go_wp2
                  go_ret
                  exact ⟨by rw [hq.out]; rfl, hw1.out.trans (hb.out.mono (by rw [hsz.out]; omega))⟩
        · have hq := hidden (hgood.out fun i hi => hj.out i hi)
          go_wp2
          go_ret
          exact ⟨by rw [hq.out]; rfl, hw1.out.trans (hb.out.mono (by rw [hsz.out]; omega))⟩
    · have hq := hidden (op_kd hid hkd)
      rw [hq.out]
      obtain ⟨q0, q1, q2, q3, q4, q5, q6, q7⟩ := hro.out.cells
      have hid1 := hid.1
      have hid2 := hid.2
      by_cases h1 : o.kd < 1
      · clear hid hkd
        go_enter Tryz.func5, Tryz.ntmps5
        go_wp2
        go_ret
        exact ⟨rfl, hw1.out⟩
      · have h2 : 16 < o.kd := by omega
        clear hid hkd
        go_enter Tryz.func5, Tryz.ntmps5
        go_wp2
        go_ret
        exact ⟨rfl, hw1.out⟩
  · have hq := hidden (op_id hid)
    rw [hq.out]
    obtain ⟨q0, q1, q2, q3, q4, q5, q6, q7⟩ := hro.out.cells
    by_cases h1 : o.id < 1
    · clear hid
      go_enter Tryz.func5, Tryz.ntmps5
      go_wp2
      go_ret
      exact ⟨rfl, hw1.out⟩
    · have h2 : 1099511627776 < o.id := by omega
      clear hid
      go_enter Tryz.func5, Tryz.ntmps5
      go_wp2
      go_ret
      exact ⟨rfl, hw1.out⟩
end Go.Proofs.YtongpgnnhpbcpaaGreatDoor
