/-
  isAmount, divide, Floor, total.
-/
import Derived.Test.YtddoibnagbbndaaDoorShareMath
import Derived.Test.YtddoibnagbbndaaDoorFix
import Derived.Test.YtddoibnagbbndaaDoorSee
import Derived.Test.YtddoibnagbbndaaDoorBase
import Derived.BigQuiet
import Derived.Deep.RegionHeld3
import Derived.Deep.DeepCutAuto
namespace Go.Proofs.YtddoibnagbbndaaDoor
open Go Go.RowKit
set_option linter.unusedVariables false

theorem am23_ways (x : Int) : (decide (0 ≤ x) = false ∧ decide (am23 x) = false) ∨ (decide (0 ≤ x) = true ∧ decide (x ≤ 1000000000000000) = false ∧ decide (am23 x) = false) ∨ (decide (0 ≤ x) = true ∧ decide (x ≤ 1000000000000000) = true ∧ decide (am23 x) = true) := by
  simp only [decide_eq_true_iff, decide_eq_false_iff_not]
  unfold am23
  omega
theorem isAmount_any23 (x : Int) (w : World) : Calls Tryd.prog 21 #[.int .i64 x] w fun e w' => e = .returned (.bool (decide (am23 x))) ∧ w = w' := by
  rcases am23_ways x with ⟨t1, q⟩ | ⟨t1, t2, q⟩ | ⟨t1, t2, q⟩
  all_goals
    replace q := hidden q
    go_enter Tryd.func21, Tryd.ntmps21
    go_wp2
    go_ret
    exact ⟨ret_bool q.out.symm, rfl⟩

/-- Div of a part: it is a number. -/
theorem part_ok {W x S : Int} (hW : am23 W) (hx : 0 ≤ x) (hxS : x ≤ S) (hS : 0 < S) : divOk W x S false = true ∧ divAns W x S false = W * x / S := by
  obtain ⟨h1, h2, _⟩ := fl_fits hW.1 hx hxS hS
  have e : divq W x S false = W * x / S := by unfold divq; simp
  have hw := hW.2
  have hin : in64 (divq W x S false) = true := by rw [e]; exact in64_mk (by omega)
  have hok : divOk W x S false = true := by unfold divOk; rw [hin, decide_eq_true hS]; rfl
  exact ⟨hok, by unfold divAns; rw [if_pos hok, e]⟩
set_option maxHeartbeats 1600000 in
theorem divide_any23 (W x S : Int) (w : World) (hW : am23 W) (hx : 0 ≤ x) (hxS : x ≤ S) (hS : 0 < S) (hS2 : S ≤ 1000000000000000) :
    Calls Tryd.prog 17 #[.int .i64 W, .int .i64 x, .int .i64 S] w fun e w' => e = .returned (.tuple #[.int .i64 (W * x / S), .int .i64 (W * x % S)]) ∧ ∃ k, w' = w.drewN k := by
  obtain ⟨h1, h2, h3, h4, h5⟩ := fl_fits hW.1 hx hxS hS
  obtain ⟨_, k2⟩ := part_ok hW hx hxS hS
  have hw := hW
  unfold am23 at hw
  have hD := hidden (div_any W x S false w (by omega) (by omega) (by omega) (by omega) (by omega))
  rw [k2] at hD
  generalize divOk W x S false = ok at *
  have hr : wrap64 (wrap64 (W * x) - wrap64 (W * x / S * S)) = W * x % S := by
    generalize W * x / S * S = z at *
    generalize W * x % S = r at *
    generalize W * x = y at *
    unfold wrap64
    omega
  replace hr := hidden hr
  generalize hq : W * x / S = q at *
  replace hq := hidden hq
  generalize hrr : W * x % S = r at *
  replace hrr := hidden hrr
  clear h1 h2 h3 h4 h5 k2 hw
  go_enter Tryd.func17, Tryd.ntmps17
  go_wp2_with fail
  refine hD.out.mono ?_
  rintro e w1 ⟨rfl, k, rfl⟩
  clear hD
  go_wp2
  go_ret2
  exact ⟨ret_ii rfl hr.out, _, rfl⟩

/-! Floor. -/
def floC (W x S : Int) : Int := if am23 W ∧ am23 x ∧ am23 S ∧ x ≤ S ∧ S ≠ 0 then 0 else 103
def floV (W x S : Int) : Int := if am23 W ∧ am23 x ∧ am23 S ∧ x ≤ S ∧ S ≠ 0 then W * x / S else 0
theorem fl_ways (W x S : Int) : (decide (am23 W) = false ∧ ¬ (am23 W ∧ am23 x ∧ am23 S ∧ x ≤ S ∧ S ≠ 0)) ∨ (decide (am23 W) = true ∧ decide (am23 x) = false ∧ ¬ (am23 W ∧ am23 x ∧ am23 S ∧ x ≤ S ∧ S ≠ 0)) ∨ (decide (am23 W) = true ∧ decide (am23 x) = true ∧ decide (am23 S) = false ∧ ¬ (am23 W ∧ am23 x ∧ am23 S ∧ x ≤ S ∧ S ≠ 0)) ∨
    (decide (am23 W) = true ∧ decide (am23 x) = true ∧ decide (am23 S) = true ∧ decide (S < x) = true ∧ ¬ (am23 W ∧ am23 x ∧ am23 S ∧ x ≤ S ∧ S ≠ 0)) ∨ (decide (am23 W) = true ∧ decide (am23 x) = true ∧ decide (am23 S) = true ∧ decide (S < x) = false ∧ (S == 0) = true ∧ ¬ (am23 W ∧ am23 x ∧ am23 S ∧ x ≤ S ∧ S ≠ 0)) ∨
    (decide (am23 W) = true ∧ decide (am23 x) = true ∧ decide (am23 S) = true ∧ decide (S < x) = false ∧ (S == 0) = false ∧ (am23 W ∧ am23 x ∧ am23 S ∧ x ≤ S ∧ S ≠ 0)) := by
  by_cases h1 : am23 W
  · by_cases h2 : am23 x
    · by_cases h3 : am23 S
      · by_cases h4 : S < x
        · exact .inr (.inr (.inr (.inl ⟨decide_eq_true h1, decide_eq_true h2, decide_eq_true h3, decide_eq_true h4, fun q => by omega⟩)))
        · by_cases h5 : S = 0
          · exact .inr (.inr (.inr (.inr (.inl ⟨decide_eq_true h1, decide_eq_true h2, decide_eq_true h3, decide_eq_false h4, by simp [h5], fun q => q.2.2.2.2 h5⟩))))
          · exact .inr (.inr (.inr (.inr (.inr ⟨decide_eq_true h1, decide_eq_true h2, decide_eq_true h3, decide_eq_false h4, by simp [h5], h1, h2, h3, by omega, h5⟩))))
      · exact .inr (.inr (.inl ⟨decide_eq_true h1, decide_eq_true h2, decide_eq_false h3, fun q => h3 q.2.2.1⟩))
    · exact .inr (.inl ⟨decide_eq_true h1, decide_eq_false h2, fun q => h2 q.2.1⟩)
  · exact .inl ⟨decide_eq_false h1, fun q => h1 q.1⟩
set_option maxHeartbeats 3200000 in
theorem floor_any23 (A : Nat → Addr) (W x S : Int) (w : World) (hE : ErrsOn [2] w A) :
    Calls Tryd.prog 10 #[.int .i64 W, .int .i64 x, .int .i64 S] w fun e w' => e = .returned (.tuple #[.int .i64 (floV W x S), errOf A (floC W x S)]) ∧ ∃ k, w' = w.drewN k := by
  have c2 : w.cell? ⟨0, 0, none⟩ = some (errAt (A 2)) := hE 2 (by simp)
  have hQ := hidden (fun n => isAmount_any23 n w)
  rcases fl_ways W x S with ⟨t1, q⟩ | ⟨t1, t2, q⟩ | ⟨t1, t2, t3, q⟩ | ⟨t1, t2, t3, t4, q⟩ | ⟨t1, t2, t3, t4, t5, q⟩ | ⟨t1, t2, t3, t4, t5, q⟩
  iterate 5
    · have hr1 := hidden (show (0 : Int) = floV W x S by unfold floV; rw [if_neg q])
      have hr2 := hidden (show errAt (A 2) = errOf A (floC W x S) by unfold floC; rw [if_neg q]; rfl)
      clear q
      go_enter Tryd.func10, Tryd.ntmps10
      go_wp2_with (go_at_call 21; refine (hQ.out _).mono ?_; rintro e w' ⟨rfl, rfl⟩)
      go_quiet (fail)
      go_wp2
      go_ret2
      exact ⟨ret_iv hr1.out hr2.out, _, rfl⟩
  · have hr1 := hidden (show W * x / S = floV W x S by unfold floV; rw [if_pos q])
    have hr2 := hidden (show Value.nilIface = errOf A (floC W x S) by unfold floC; rw [if_pos q]; rfl)
    obtain ⟨q1, q2, q3, q4, q5⟩ := q
    have hD := hidden (divide_any23 W x S w q1 q2.1 q4 (by have := q3.1; omega) q3.2)
    clear q1 q2 q3 q4 q5
    go_enter Tryd.func10, Tryd.ntmps10
    go_wp2_with (first | (go_at_call 21; refine (hQ.out _).mono ?_; rintro e w' ⟨rfl, rfl⟩) | (go_at_call 17; refine hD.out.mono ?_; rintro e w' ⟨rfl, k, rfl⟩))
    go_ret2
    exact ⟨ret_iv hr1.out hr2.out, _, rfl⟩

/-! total. -/
def tlV (W : Int) (L : List Int) : Int := if shC W L = 0 then smW L else 0
theorem total_take23 (L : List Int) : ∀ k, k ≤ L.length → total (L.take k) = suF (wF L) k
  | 0, _ => rfl
  | k + 1, h => by
    rw [take_snoc0 L k (by omega), total_snoc, total_take23 L k (by omega)]; try rfl
theorem total_all23 (L : List Int) : total L = smW L := by
  have := total_take23 L L.length (Nat.le_refl _)
  rwa [List.take_length] at this
theorem shC_many {W : Int} {L : List Int} (h : 32 < L.length) : shC W L = 105 := if_pos h
theorem shC_whole {W : Int} {L : List Int} (h : ¬ 32 < L.length) (h2 : ¬ am23 W) : shC W L = 103 := by unfold shC; rw [if_neg h, if_pos (.inl h2)]
theorem shC_weight {W : Int} {L : List Int} (h : ¬ 32 < L.length) {k : Nat} (hk : k < L.length) (h2 : ¬ am23 (wF L k)) : shC W L = 103 := by
  have hf : allW L = false := by
    cases q : allW L
    · rfl
    · exact absurd (allW_iff.1 q k hk) h2
  unfold shC
  rw [if_neg h, if_pos (.inr hf)]
theorem shC_sums {W : Int} {L : List Int} (h : ¬ 32 < L.length) (h1 : am23 W) (h2 : ∀ k, k < L.length → am23 (wF L k)) : shC W L = if 1000000000000000 < smW L then 104 else if smW L = 0 ∧ W ≠ 0 then 106 else 0 := by
  unfold shC
  rw [if_neg h, if_neg (by rw [allW_iff.2 h2]; simp [h1])]
def TlRel (L : List Int) (w0 : World) (i : Value) (w : World) : Prop := ∃ k : Nat, k ≤ L.length ∧ i = .int .i64 (k : Int) ∧ (∀ j, j < k → am23 (wF L j)) ∧ w0 = w
set_option maxRecDepth 100000 in
set_option maxHeartbeats 6400000 in
theorem total_any23 (A : Nat → Addr) (W : Int) (v : Value) (L : List Int) (w : World) (hr : Reads .i64 w v L) (hE : ErrsOn [2, 3, 4, 5] w A) :
    Calls Tryd.prog 16 #[.int .i64 W, v] w fun e w' => e = .returned (.tuple #[.int .i64 (tlV W L), errOf A (shC W L)]) ∧ ∃ k, w' = w.drewN k := by
  have c2 : w.cell? ⟨0, 0, none⟩ = some (errAt (A 2)) := hE 2 (by simp)
  have c3 : w.cell? ⟨2, 0, none⟩ = some (errAt (A 3)) := hE 3 (by simp)
  have c4 : w.cell? ⟨1, 0, none⟩ = some (errAt (A 4)) := hE 4 (by simp)
  have c5 : w.cell? ⟨3, 0, none⟩ = some (errAt (A 5)) := hE 5 (by simp)
  have hQ := hidden (fun n => isAmount_any23 n w)
  have hr0 := hidden hr
  obtain ⟨a1, c1, rfl⟩ := reads_slice hr
  have hml : (L.length : Int) ≤ 9223372036854775807 := by
    have := reads_cap hr
    unfold maxLen at this
    omega
  have hx1 := hidden (fun i hi => hr.cell i hi)
  clear hr hE
  by_cases hm : 32 < L.length
  · have hmI : (32 : Int) < (L.length : Int) := by omega
    have e1 := shC_many (W := W) hm
    have hr1 := hidden (show (0 : Int) = tlV W L by unfold tlV; rw [e1]; rfl)
    have hr2 := hidden (show errAt (A 4) = errOf A (shC W L) by rw [e1]; rfl)
    clear e1
    go_enter Tryd.func16, Tryd.ntmps16
    go_wp2_with fail
    go_quiet (fail)
    go_wp2
    go_ret2
    exact ⟨ret_iv hr1.out hr2.out, _, rfl⟩
  · have hmI : ¬ (32 : Int) < (L.length : Int) := by omega
    have hQ1 := hidden (hQ.out W)
    by_cases hW : am23 W
    · rw [decide_eq_true hW] at hQ1
      go_enter Tryd.func16, Tryd.ntmps16
      go_wp2_with fail
      refine hQ1.out.mono ?_
      rintro e w' ⟨rfl, rfl⟩
      clear hQ1
      go_wp2_with fail
      go_loopw [20] (fun i wr => TlRel L w i wr) (fun i _ => L.length - (RowKit.intOf i).toNat)
      case atStart => exact ⟨0, Nat.zero_le _, rfl, fun j hj => by omega, rfl⟩
      case round =>
        obtain ⟨k, hk, rfl, hok, rfl⟩ := hrel
        by_cases hlt : k < L.length
        · obtain ⟨b, o, rfl, q0⟩ := hx1.out k hlt
          have hlI : (k : Int) < (L.length : Int) := by omega
          have hQ1 := hidden (hQ.out (L.getD k 0))
          by_cases hx : am23 (L.getD k 0)
          · rw [decide_eq_true hx] at hQ1
            have hok2 := hidden (show ∀ j, j < k + 1 → am23 (wF L j) from fun j hj => by
              by_cases e : j = k
              · subst e; exact hx
              · exact hok j (by omega))
            generalize L.getD k 0 = x at *
            clear hok hx1 hQ hx
            go_wp2_with fail
            refine hQ1.out.mono ?_
            rintro e w' ⟨rfl, rfl⟩
            clear hQ1
            go_wp2
            go_roundw
            case rel => exact ⟨k + 1, hlt, by go_num, hok2.out, rfl⟩
            case measure => simp [RowKit.intOf]; omega
          · rw [decide_eq_false hx] at hQ1
            have e1 := shC_weight (W := W) hm hlt hx
            have hr1 := hidden (show (0 : Int) = tlV W L by unfold tlV; rw [e1]; rfl)
            have hr2 := hidden (show errAt (A 2) = errOf A (shC W L) by rw [e1]; rfl)
            generalize L.getD k 0 = x at *
            clear hok hx1 hQ hx e1
            go_wp2_with fail
            refine hQ1.out.mono ?_
            rintro e w' ⟨rfl, rfl⟩
            clear hQ1
            go_wp2_with fail
            go_quiet (fail)
            go_wp2
            go_ret2
            exact ⟨ret_iv hr1.out hr2.out, _, rfl⟩
        · obtain rfl : k = L.length := by omega
          have e1 := shC_sums hm hW hok
          have hbd : 0 ≤ smW L ∧ smW L ≤ 32000000000000000 := by
            refine ⟨suF_pos fun i hi => (hok i hi).1, ?_⟩
            have := suF_lt (f := wF L) (c := 1000000000000001) (k := L.length) fun i hi => by have := (hok i hi).2; omega
            unfold smW; omega
          have hS := hidden (sum_any (.slice a1 L.length c1) L _ hr0.out (by omega) (fun x hx => by
            obtain ⟨i, hi, rfl⟩ := List.getElem_of_mem hx
            have := hok i hi
            unfold wF am23 at this
            rw [List.getD_eq_getElem?_getD, List.getElem?_eq_getElem hi] at this
            simp only [Option.getD_some] at this
            omega))
          rw [total_all23, cap64_yes (in64_mk (by omega)), in64_mk (by omega)] at hS
          clear hok hx1 hQ hr0
          by_cases h1 : 1000000000000000 < smW L
          · rw [if_pos h1] at e1
            have hr1 := hidden (show (0 : Int) = tlV W L by unfold tlV; rw [e1]; rfl)
            have hr2 := hidden (show errAt (A 3) = errOf A (shC W L) by rw [e1]; rfl)
            clear e1
            generalize smW L = S at *
            have hd1 : decide (1000000000000000 < S) = true := decide_eq_true h1
            go_wp2_with fail
            refine hS.out.mono ?_
            rintro e w' ⟨rfl, rfl⟩
            clear hS
            go_wp2_with fail
            go_quiet (fail)
            go_wp2
            go_ret2
            exact ⟨ret_iv hr1.out hr2.out, _, rfl⟩
          · rw [if_neg h1] at e1
            by_cases h2 : smW L = 0 ∧ W ≠ 0
            · rw [if_pos h2] at e1
              have hr1 := hidden (show (0 : Int) = tlV W L by unfold tlV; rw [e1]; rfl)
              have hr2 := hidden (show errAt (A 5) = errOf A (shC W L) by rw [e1]; rfl)
              clear e1
              rw [h2.1] at hS
              have hW0 : ¬ W = 0 := h2.2
              have hd1 : (W != 0) = true := by simp; exact hW0
              clear h2
              go_wp2_with fail
              refine hS.out.mono ?_
              rintro e w' ⟨rfl, rfl⟩
              clear hS
              go_wp2_with fail
              go_quiet (fail)
              go_wp2
              go_ret2
              exact ⟨ret_iv hr1.out hr2.out, _, rfl⟩
            · rw [if_neg h2] at e1
              have hr1 := hidden (show smW L = tlV W L by unfold tlV; rw [e1]; rfl)
              have hr2 := hidden (show Value.nilIface = errOf A (shC W L) by rw [e1]; rfl)
              clear e1
              generalize smW L = S at *
              have hd1 : decide (1000000000000000 < S) = false := decide_eq_false h1
              by_cases h3 : S = 0
              · subst h3
                obtain rfl : W = 0 := by
                  by_cases q : W = 0
                  · exact q
                  · exact absurd ⟨rfl, q⟩ h2
                clear h2
                go_wp2_with fail
                refine hS.out.mono ?_
                rintro e w' ⟨rfl, rfl⟩
                clear hS
                go_wp2
                go_ret2
                exact ⟨ret_iv hr1.out hr2.out, 0, rfl⟩
              · have hd2 : (S == 0) = false := by simp; exact h3
                clear h2
                go_wp2_with fail
                refine hS.out.mono ?_
                rintro e w' ⟨rfl, rfl⟩
                clear hS
                go_wp2
                go_ret2
                exact ⟨ret_iv hr1.out hr2.out, 0, rfl⟩
    · rw [decide_eq_false hW] at hQ1
      have e1 := shC_whole (L := L) hm hW
      have hr1 := hidden (show (0 : Int) = tlV W L by unfold tlV; rw [e1]; rfl)
      have hr2 := hidden (show errAt (A 2) = errOf A (shC W L) by rw [e1]; rfl)
      clear e1 hx1 hQ
      go_enter Tryd.func16, Tryd.ntmps16
      go_wp2_with fail
      refine hQ1.out.mono ?_
      rintro e w' ⟨rfl, rfl⟩
      clear hQ1
      go_wp2_with fail
      go_quiet (fail)
      go_wp2
      go_ret2
      exact ⟨ret_iv hr1.out hr2.out, _, rfl⟩
end Go.Proofs.YtddoibnagbbndaaDoor
