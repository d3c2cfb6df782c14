/-
  pledgelaw25.OpWords: for every three numbers.
-/
import Derived.Test.YtifjnjjmfnhkaaaDoorOpLaw
import Derived.Test.YtifjnjjmfnhkaaaDoorOp7
import Derived.Test.YtifjnjjmfnhkaaaDoorLaidOn
import Derived.Deep.CutBlock
namespace Go.Proofs.YtifjnjjmfnhkaaaDoor
open Go.RowKit
set_option linter.unusedVariables false

/-- the words of the three tables. -/
def wsW (k : Nat) : List (List UInt8) := [[], [[53]], [[53], [100, 101, 112, 111, 115, 105, 116, 115], [49], [50], [51]], [[53], [100, 101, 112, 111, 115, 105, 116], [49], [50]], [[120], [116, 105, 99, 107], [49], [50]], [[53], []]].getD k []
def wsN (k : Nat) : List (List UInt8) := [[[120], [116, 105, 99, 107], [49]], [[53], [110, 101, 101, 100], [49], [48, 49]], [[48, 53], [116, 105, 99, 107], [49]], [[53], [102, 117, 110, 100], [], [49]], [[53], [116, 105, 99, 107], [49, 50, 51, 52, 53, 54, 55, 56, 57, 48, 49, 50, 51, 52, 53, 54, 55, 56, 57]]].getD k []
def wsR (k : Nat) : List (List UInt8) := [[[48], [116, 105, 99, 107], [49]], [[53], [110, 101, 101, 100], [49, 48, 52, 56, 53, 55, 55], [49]], [[53], [116, 105, 99, 107], [49, 48, 48, 48, 48, 48, 48, 48, 48, 48, 48, 48, 48, 48, 48, 49]], [[49, 48, 57, 57, 53, 49, 49, 54, 50, 55, 55, 55, 55], [116, 105, 99, 107], [49]]].getD k []
theorem wsW_fin : ∀ k : Fin 6, paC (wsW k.val) = 118 := by decide +kernel
theorem wsN_fin : ∀ k : Fin 5, paC (wsN k.val) = 119 := by decide +kernel
theorem wsR_fin : ∀ k : Fin 4, paC (wsR k.val) = 103 := by decide +kernel
def wdO (ws : List (List UInt8)) : Obj := .cells (ws.map bsV).toArray 9
def slV (b n : Nat) : Value := .slice (some ⟨b, 0, none⟩) n n
def tbO (vs : List Value) : Obj := .cells vs.toArray 35
def osW (s : Nat) : List Obj := [wdO (wsW 1), wdO (wsW 2), wdO (wsW 3), wdO (wsW 4), wdO (wsW 5), tbO [.slice none 0 0, slV s 1, slV (s + 1) 5, slV (s + 2) 4, slV (s + 3) 4, slV (s + 4) 2],
  wdO (wsN 0), wdO (wsN 1), wdO (wsN 2), wdO (wsN 3), wdO (wsN 4), tbO [slV (s + 6) 3, slV (s + 7) 4, slV (s + 8) 3, slV (s + 9) 4, slV (s + 10) 3],
  wdO (wsR 0), wdO (wsR 1), wdO (wsR 2), wdO (wsR 3), tbO [slV (s + 12) 3, slV (s + 13) 4, slV (s + 14) 3, slV (s + 15) 3]]
def allocs (w : World) (os : List Obj) : World := os.foldl World.alloc w
theorem allocs_below {w0 : World} {B : Nat} : ∀ (os : List Obj) (w : World), Below B w0 w → B ≤ w.heap.size → Below B w0 (allocs w os)
  | [], w, h, _ => h
  | o :: r, w, h, hB => allocs_below r (w.alloc o) (h.alloc hB o) (by show B ≤ (w.heap.push o).size; rw [Array.size_push]; omega)
theorem allocs_heap : ∀ (os : List Obj) (w : World), (allocs w os).heap = w.heap ++ os.toArray
  | [], w => by simp [allocs]
  | o :: r, w => by
    show (allocs (w.alloc o) r).heap = _
    rw [allocs_heap r (w.alloc o), show (w.alloc o).heap = w.heap.push o from rfl]
    simp
theorem allocs_at (os : List Obj) (w : World) (i : Nat) (hi : i < os.length) : (allocs w os).heap[w.heap.size + i]? = os[i]? := by
  rw [allocs_heap, Array.getElem?_append_right (by omega)]
  simp
/-- a table of words. -/
def WdTab (w : World) (b n : Nat) (ws : Nat → List (List UInt8)) : Prop := ∀ k, k < n → ∃ v, w.cell? ⟨b, k, none⟩ = some v ∧ Wds w v (ws k)
theorem WdTab.below {w w' : World} {b n B : Nat} {ws : Nat → List (List UInt8)} (h : WdTab w b n ws) (hb : Below B w w') (hB : w.heap.size ≤ B) : WdTab w' b n ws := fun k hk => by
  obtain ⟨v, h1, h2⟩ := h k hk
  exact ⟨v, by rw [World.cell?_of_block (w := w) (hb.block b (Nat.lt_of_lt_of_le (World.block_lt_of_cell? w _ h1) hB))]; exact h1, Row.below wdF_len h2 hb hB⟩
theorem cell_row {w : World} {b k : Nat} {l : List Value} {t : TypeId} (h : w.heap[b]? = some (.cells l.toArray t)) : w.cell? ⟨b, k, none⟩ = l[k]? := by
  simp [World.cell?, h]
theorem wdO_row {w : World} {b n : Nat} {ws : List (List UInt8)} (h : w.heap[b]? = some (wdO ws)) (hn : n = ws.length) (h6 : n ≤ 6) : Wds w (slV b n) ws := by
  subst hn
  refine ⟨some ⟨b, 0, none⟩, ws.length, rfl, Nat.le_refl _, by unfold maxLen; omega, (fun e => by cases e), fun ad e i hi => ?_⟩
  cases e
  refine ⟨rfl, ?_⟩
  have hf : ws.flatMap wdF = ws.map bsV := by
    clear h hi h6
    induction ws with
    | nil => rfl
    | cons x r ih => rw [List.flatMap_cons, ih]; rfl
  rw [hf, show (0 + i) = i by omega]
  exact cell_row h
set_option maxRecDepth 100000 in
theorem tabs_on (w : World) : WdTab (allocs w (osW w.heap.size)) (w.heap.size + 5) 6 wsW ∧ WdTab (allocs w (osW w.heap.size)) (w.heap.size + 11) 5 wsN ∧ WdTab (allocs w (osW w.heap.size)) (w.heap.size + 16) 4 wsR := by
  have h := fun i hi => allocs_at (osW w.heap.size) w i hi
  generalize allocs w (osW w.heap.size) = W at *
  generalize w.heap.size = s at *
  refine ⟨fun k hk => ?_, fun k hk => ?_, fun k hk => ?_⟩
  · have h6 : k = 0 ∨ k = 1 ∨ k = 2 ∨ k = 3 ∨ k = 4 ∨ k = 5 := by omega
    rcases h6 with rfl | rfl | rfl | rfl | rfl | rfl
    · exact ⟨_, cell_row (h 5 (show 5 < 17 by decide)), Row.nil _⟩
    · exact ⟨_, cell_row (h 5 (show 5 < 17 by decide)), wdO_row (h 0 (show 0 < 17 by decide)) rfl (by decide)⟩
    · exact ⟨_, cell_row (h 5 (show 5 < 17 by decide)), wdO_row (h 1 (show 1 < 17 by decide)) rfl (by decide)⟩
    · exact ⟨_, cell_row (h 5 (show 5 < 17 by decide)), wdO_row (h 2 (show 2 < 17 by decide)) rfl (by decide)⟩
    · exact ⟨_, cell_row (h 5 (show 5 < 17 by decide)), wdO_row (h 3 (show 3 < 17 by decide)) rfl (by decide)⟩
    · exact ⟨_, cell_row (h 5 (show 5 < 17 by decide)), wdO_row (h 4 (show 4 < 17 by decide)) rfl (by decide)⟩
  · have h5 : k = 0 ∨ k = 1 ∨ k = 2 ∨ k = 3 ∨ k = 4 := by omega
    rcases h5 with rfl | rfl | rfl | rfl | rfl
    · exact ⟨_, cell_row (h 11 (show 11 < 17 by decide)), wdO_row (h 6 (show 6 < 17 by decide)) rfl (by decide)⟩
    · exact ⟨_, cell_row (h 11 (show 11 < 17 by decide)), wdO_row (h 7 (show 7 < 17 by decide)) rfl (by decide)⟩
    · exact ⟨_, cell_row (h 11 (show 11 < 17 by decide)), wdO_row (h 8 (show 8 < 17 by decide)) rfl (by decide)⟩
    · exact ⟨_, cell_row (h 11 (show 11 < 17 by decide)), wdO_row (h 9 (show 9 < 17 by decide)) rfl (by decide)⟩
    · exact ⟨_, cell_row (h 11 (show 11 < 17 by decide)), wdO_row (h 10 (show 10 < 17 by decide)) rfl (by decide)⟩
  · have h4 : k = 0 ∨ k = 1 ∨ k = 2 ∨ k = 3 := by omega
    rcases h4 with rfl | rfl | rfl | rfl
    · exact ⟨_, cell_row (h 16 (show 16 < 17 by decide)), wdO_row (h 12 (show 12 < 17 by decide)) rfl (by decide)⟩
    · exact ⟨_, cell_row (h 16 (show 16 < 17 by decide)), wdO_row (h 13 (show 13 < 17 by decide)) rfl (by decide)⟩
    · exact ⟨_, cell_row (h 16 (show 16 < 17 by decide)), wdO_row (h 14 (show 14 < 17 by decide)) rfl (by decide)⟩
    · exact ⟨_, cell_row (h 16 (show 16 < 17 by decide)), wdO_row (h 15 (show 15 < 17 by decide)) rfl (by decide)⟩

theorem words_case {a b : Nat} (ka : a < 18) (kb : b < 18) : ((a : Int) < 1 ∧ nmV (a : Int) = []) ∨ ((1 : Int) ≤ (a : Int) ∧ (16 : Int) < (a : Int) ∧ nmV (a : Int) = []) ∨ ((1 : Int) ≤ (a : Int) ∧ (a : Int) ≤ 16 ∧ a = b ∧ nmV (a : Int) ≠ []) ∨ ((1 : Int) ≤ (a : Int) ∧ (a : Int) ≤ 16 ∧ (a : Int) ≠ (b : Int) ∧ nmV (a : Int) ≠ [] ∧ nmV (a : Int) ≠ nmV (b : Int)) := by
  by_cases h1 : 1 ≤ a
  · by_cases h2 : a ≤ 16
    · have e := nmV_in (kd := (a : Int)) rfl h1 h2
      have h3 : nmV (a : Int) ≠ [] := by rw [e]; exact fun h => absurd ((nm_word h2).2.2.1 h) (by omega)
      by_cases h4 : a = b
      · exact .inr (.inr (.inl ⟨by omega, by omega, h4, h3⟩))
      · refine .inr (.inr (.inr ⟨by omega, by omega, by omega, h3, ?_⟩))
        by_cases h5 : 1 ≤ b ∧ b ≤ 16
        · rw [e, nmV_in (kd := (b : Int)) rfl h5.1 h5.2]
          exact fun h => h4 (nm_inj h2 h5.2 h)
        · rw [show nmV (b : Int) = [] from if_neg (by omega)]
          exact h3
    · exact .inr (.inl ⟨by omega, by omega, if_neg (by omega)⟩)
  · exact .inl ⟨by omega, if_neg (by omega)⟩

set_option maxRecDepth 100000 in
set_option maxHeartbeats 6400000 in
theorem walk_opWords (a0 a1 a2 : Int) (A : Nat → Addr) (w : World) (b0 : -9223372036854775808 ≤ a0) (c0 : a0 ≤ 9223372036854775807) (b1 : -9223372036854775808 ≤ a1) (c1 : a1 ≤ 9223372036854775807) (b2 : -9223372036854775808 ≤ a2) (c2 : a2 ≤ 9223372036854775807) (hS : Sents w A) (hT : Lib.TabIs Tryd.prog w "internal/strconv.uint64pow10" .u64 Lib.pow10Tab) (hY : SynOn w) (hR : RowsOn w) :
    Calls Tryd.prog 5 #[.int .i64 a0, .int .i64 a1, .int .i64 a2] w fun e w' => e = .returned (.bool true) ∧ Below w.heap.size w w' := by
  have hE : OpEnv A w := ⟨hS, hR, hT⟩
  have hF := hidden (law25_first A w hE)
  have hEb := hidden (fun W (hb : Below w.heap.size w W) => hE.below hb (Nat.le_refl _))
  have hYb := hidden (fun W (hb : Below w.heap.size w W) => hY.below hb (Nat.le_refl _))
  have nK6 := hidden (fun W => number_any a0 6 W b0 c0 (by decide) (by decide))
  have nK5 := hidden (fun W => number_any a0 5 W b0 c0 (by decide) (by decide))
  have nK4 := hidden (fun W => number_any a0 4 W b0 c0 (by decide) (by decide))
  have nA := hidden (fun W => number_any a1 18 W b1 c1 (by decide) (by decide))
  have nB := hidden (fun W => number_any a2 18 W b2 c2 (by decide) (by decide))
  obtain ⟨K6, hK6⟩ : ∃ K : Nat, a0 % 6 = (K : Int) := ⟨(a0 % 6).toNat, by omega⟩
  obtain ⟨K5, hK5⟩ : ∃ K : Nat, a0 % 5 = (K : Int) := ⟨(a0 % 5).toNat, by omega⟩
  obtain ⟨K4, hK4⟩ : ∃ K : Nat, a0 % 4 = (K : Int) := ⟨(a0 % 4).toNat, by omega⟩
  obtain ⟨a, ha⟩ : ∃ K : Nat, a1 % 18 = (K : Int) := ⟨(a1 % 18).toNat, by omega⟩
  obtain ⟨b, hb⟩ : ∃ K : Nat, a2 % 18 = (K : Int) := ⟨(a2 % 18).toNat, by omega⟩
  have k6 : K6 < 6 := by omega
  have k5 : K5 < 5 := by omega
  have k4 : K4 < 4 := by omega
  have ka : a < 18 := by omega
  have kb : b < 18 := by omega
  rw [hK6] at nK6
  rw [hK5] at nK5
  rw [hK4] at nK4
  rw [ha] at nA
  rw [hb] at nB
  clear hE hS hT hR hY hK6 hK5 hK4 ha hb b0 c0 b1 c1 b2 c2
  go_enter Tryd.func5, Tryd.ntmps5
  go_wp2_with fail
  refine hF.out.mono ?_
  rintro e w1 ⟨rfl, hb1⟩
  replace hb1 := hidden hb1
  clear hF
  go_wp2_with fail
  have hT := hidden (tabs_on w1)
  have hbW := hidden (allocs_below (osW w1.heap.size) w1 hb1.out hb1.out.size)
  refine (nK6.out (allocs w1 (osW w1.heap.size))).mono ?_
  rintro e w2 ⟨rfl, rfl⟩
  have e5 : w1.heap.size + 1 + 1 + 1 + 1 + 1 = w1.heap.size + 5 := rfl
  have e11 : w1.heap.size + 5 + 1 + 1 + 1 + 1 + 1 + 1 = w1.heap.size + 11 := rfl
  have e16 : w1.heap.size + 11 + 1 + 1 + 1 + 1 + 1 = w1.heap.size + 16 := rfl
  rw [e5, e11, e16]
  clear e5 e11 e16 hb1
  generalize allocs w1 (osW w1.heap.size) = W at *
  generalize w1.heap.size = s at *
  have hT2 := hidden (fun W' (hb : Below W.heap.size W W') => (⟨(hT.out.2.1).below hb (Nat.le_refl _), (hT.out.2.2).below hb (Nat.le_refl _)⟩ : WdTab W' (s + 11) 5 wsN ∧ WdTab W' (s + 16) 4 wsR))
  obtain ⟨v6, q6, r6⟩ := hT.out.1 K6 k6
  have r6 := hidden r6
  go_wp2_with fail
  refine (parse_any25 A v6 (wsW K6) W (hEb.out W hbW.out) (hYb.out W hbW.out) r6.out).mono ?_
  rintro e W1 ⟨rfl, hb1⟩
  rw [wsW_fin ⟨K6, k6⟩]
  have hbW1 := hidden (hbW.out.trans (hb1.mono hbW.out.size))
  have hbW2 := hidden ((hbW1.out).alloc hbW1.out.size (opO (paR (wsW K6))))
  have htt := hidden (Below.alloc hb1 hb1.size (opO (paR (wsW K6))))
  clear hb1 hbW q6 r6
  go_wp2_with fail
  refine (nK5.out (W1.alloc (opO (paR (wsW K6))))).mono ?_
  rintro e w2 ⟨rfl, rfl⟩
  have hbV := hidden hbW2.out
  have hT3 := hidden (hT2.out _ htt.out)
  generalize W1.heap.size = g1 at *
  generalize W1.alloc (opO (paR (wsW K6))) = V at *
  clear hT hT2 htt hbW1 hbW2
  obtain ⟨v5, q5, r5⟩ := hT3.out.1 K5 k5
  have r5 := hidden r5
  go_wp2_with fail
  refine (parse_any25 A v5 (wsN K5) V (hEb.out V hbV.out) (hYb.out V hbV.out) r5.out).mono ?_
  rintro e V1 ⟨rfl, hb3⟩
  rw [wsN_fin ⟨K5, k5⟩]
  have hbV1 := hidden (hbV.out.trans (hb3.mono hbV.out.size))
  have hbV2 := hidden ((hbV1.out).alloc hbV1.out.size (opO (paR (wsN K5))))
  have htt := hidden (Below.alloc hb3 hb3.size (opO (paR (wsN K5))))
  clear hb3 hbV q5 r5
  go_wp2_with fail
  refine (nK4.out (V1.alloc (opO (paR (wsN K5))))).mono ?_
  rintro e w2 ⟨rfl, rfl⟩
  have hbU := hidden hbV2.out
  have hT4 := hidden (hT3.out.2.below htt.out (Nat.le_refl _))
  generalize V1.heap.size = g2 at *
  generalize V1.alloc (opO (paR (wsN K5))) = U at *
  clear hT3 htt hbV1 hbV2
  obtain ⟨v4, q4, r4⟩ := hT4.out K4 k4
  have r4 := hidden r4
  go_wp2_with fail
  refine (parse_any25 A v4 (wsR K4) U (hEb.out U hbU.out) (hYb.out U hbU.out) r4.out).mono ?_
  rintro e U1 ⟨rfl, hb3⟩
  rw [wsR_fin ⟨K4, k4⟩]
  have hbU1 := hidden (hbU.out.trans (hb3.mono hbU.out.size))
  have hbU2 := hidden ((hbU1.out).alloc hbU1.out.size (opO (paR (wsR K4))))
  have htt := hidden (Below.alloc hb3 hb3.size (opO (paR (wsR K4))))
  clear hb3 hbU q4 r4
  go_wp2_with fail
  refine (nA.out (U1.alloc (opO (paR (wsR K4))))).mono ?_
  rintro e w2 ⟨rfl, rfl⟩
  have hbX := hidden hbU2.out
  generalize U1.heap.size = g3 at *
  generalize U1.alloc (opO (paR (wsR K4))) = X at *
  clear hT4 htt hbU1 hbU2
  go_wp2_with fail
  refine (nB.out X).mono ?_
  rintro e w2 ⟨rfl, rfl⟩
  go_wp2_with fail
  refine (name_any (a : Int) X (hEb.out X hbX.out).rows).mono ?_
  rintro e w2 ⟨rfl, rfl⟩
  go_wp2_with fail
  refine (name_any (b : Int) _ (hEb.out _ hbX.out).rows).mono ?_
  rintro e w2 ⟨rfl, rfl⟩
  go_upto_region 14 with (fail)
  have hi := hidden (fun W (hb : Below w.heap.size w W) k hk => is_self A k W (hEb.out W hb).sents hk)
  have hcase := hidden (words_case ka kb)
  generalize nmV (a : Int) = xs at *
  generalize nmV (b : Int) = ys at *
  clear nK6 nK5 nK4 nA nB hEb hYb ka kb
  go_wp2_with fail
  refine (hi.out _ hbX.out 118 (.inr ⟨by decide, by decide⟩)).mono ?_
  rintro e w9 ⟨rfl, hb9⟩
  replace hbX := hidden (hbX.out.trans (hb9.mono hbX.out.size))
  clear hb9
  go_wp2_with fail
  refine (hi.out _ hbX.out 119 (.inr ⟨by decide, by decide⟩)).mono ?_
  rintro e w9 ⟨rfl, hb9⟩
  replace hbX := hidden (hbX.out.trans (hb9.mono hbX.out.size))
  clear hb9
  go_wp2_with fail
  refine (hi.out _ hbX.out 103 (.inr ⟨by decide, by decide⟩)).mono ?_
  rintro e w9 ⟨rfl, hb9⟩
  replace hbX := hidden (hbX.out.trans (hb9.mono hbX.out.size))
  clear hb9 hi
  rcases hcase.out with ⟨h1, rfl⟩ | ⟨h1, h2, rfl⟩ | ⟨h1, h2, rfl, h4⟩ | ⟨h1, h2, h3, h4, h5⟩
  · clear hcase
    go_wp2_with fail
    all_goals (go_ret; exact ⟨rfl, hbX.out⟩)
  · clear hcase
    have hd : decide ((a : Int) ≤ 16) = false := decide_eq_false (by omega)
    go_wp2_with fail
    all_goals (go_ret; refine ⟨?_, hbX.out⟩; first | rfl | simp [hd] | (simp; omega))
  · clear hcase
    have hd : xs.isEmpty = false := by cases xs with | nil => exact absurd rfl h4 | cons => rfl
    go_wp2_with fail
    all_goals (go_ret; refine ⟨?_, hbX.out⟩; first | rfl | simp [hd])
  · clear hcase
    have hd : xs.isEmpty = false := by cases xs with | nil => exact absurd rfl h4 | cons => rfl
    have he : (xs == ys) = false := by rw [beq_eq_false_iff_ne]; exact h5
    have hf : ((a : Int) == (b : Int)) = false := by rw [beq_eq_false_iff_ne]; exact h3
    go_wp2_with fail
    all_goals (go_ret; refine ⟨?_, hbX.out⟩; first | rfl | simp [hd, he, hf])
end Go.Proofs.YtifjnjjmfnhkaaaDoor
