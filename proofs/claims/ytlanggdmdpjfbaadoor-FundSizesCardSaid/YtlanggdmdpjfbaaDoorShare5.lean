/-
  slices.SortStableFunc of at most 39 places; falling.
  isAmount, divide, Floor, total.
  falling; a row of numbers in a block of its own.
  Split.
  The chapter's example.
-/
import Derived.Test.YtlanggdmdpjfbaaDoorShare4
import Derived.Lib.SliceRun
import Derived.Test.YtlanggdmdpjfbaaDoorShareMath
import Derived.Test.YtlanggdmdpjfbaaDoorFix
import Derived.Test.YtlanggdmdpjfbaaDoorSee
import Derived.Test.YtlanggdmdpjfbaaDoorBase
import Derived.BigQuiet
import Derived.Deep.RegionHeld3
import Derived.Deep.DeepCutAuto
import Derived.Test.YtlanggdmdpjfbaaDoorSameLongs
namespace Go.Proofs.YtlanggdmdpjfbaaDoor
open Go Go.RowKit
set_option linter.unusedVariables false

theorem symMerge_any23 (rs : List Int) (gr n g c : Nat) (w0 : World) (hC : Cmp23 rs w0 gr n) (hn : n ≤ 1000) : ∀ (N a m b : Nat) (f : Nat → Nat) (W : World), b - a ≤ N → a < m → m < b → b ≤ n → (∀ x, x < n → f x < n) → Crs23 f a m b → SoR (rsF rs) f a m → SoR (rsF rs) f m b → InR w0 g c n W f → SymAt23 rs w0 gr g c n f a m b W
  | 0, a, m, b, f, W, h1, h2, h3, h4, hf, hx, s1, s2, hA => by omega
  | N + 1, a, m, b, f, W, h1, h2, h3, h4, hf, hx, s1, s2, hA => by
    by_cases c1 : m = a + 1
    · subst c1
      exact symLeft_any23 rs gr a b n g c f w0 W hC h3 h4 hn hf (fun y p q => hx a y (Nat.le_refl _) (by omega) p q) s2 hA
    · by_cases c2 : b = m + 1
      · subst c2
        exact symRight_any23 rs gr a m n g c f w0 W hC (by omega) h4 hn hf (fun y p q => hx y m p q (Nat.le_refl _) (by omega)) s1 hA
      · exact symBoth_any23 rs gr a m b n g c f w0 W hC (by omega) (by omega) h4 hn hf hx s1 s2 hA fun a' m' b' f' W' q1 q2 q3 q4 q5 q6 q7 q8 q9 => symMerge_any23 rs gr n g c w0 hC hn N a' m' b' f' W' (by omega) q1 q2 q4 q5 q6 q7 q8 q9
theorem isort_none23 (fv : Value) (s : Value) (a b : Nat) (hab : b ≤ a) (ha : a ≤ 1000) (w : World) :
    Calls Tryd.prog 77 #[s, .int .i64 (a : Int), .int .i64 (b : Int), fv] w fun e w' => e = .returned (.tuple #[]) ∧ w = w' := by
  obtain ⟨a', ha'⟩ : ∃ a', a' = a + 1 := ⟨_, rfl⟩
  have hw1 : IntKind.i64.wrap ((a : Int) + 1) = (a' : Int) := by rw [IntKind.wrap_i64]; omega
  have hl : ¬ (a' : Int) < (b : Int) := by omega
  clear ha'
  go_enter Tryd.func77, Tryd.ntmps77
  go_wp2_with fail
  refine wp_loop_rounds 1 ?_
  rw [rounds_succ]
  go_wp2
  go_end0
  exact ⟨rfl, rfl⟩
abbrev StbAt23 (rs : List Int) (w0 : World) (gr g c n : Nat) (W : World) : Prop := Calls Tryd.prog 73 #[.slice (some ⟨g, 0, none⟩) n c, .int .i64 (n : Int), .func (.func 60) #[] #[.pointer (some ⟨gr, 0, none⟩)]] W (SoAt23 rs w0 g c n id 0 n)
set_option maxRecDepth 100000 in
set_option maxHeartbeats 6400000 in
theorem stable_less23 (rs : List Int) (gr n g c : Nat) (w0 w : World) (hC : Cmp23 rs w0 gr n) (h1 : 0 < n) (hn : n < 20) (h : InR w0 g c n w id) : StbAt23 rs w0 gr g c n w := by
  have hX := hidden (isort_any23 rs gr 0 n n g c id w0 w hC h1 (Nat.le_refl _) (by omega) (fun x q => q) (fun x y _ q _ => q) h)
  unfold StbAt23 SoAt23 at *
  have hnL : ¬ (20 : Int) ≤ (n : Int) := by omega
  have hnM : ¬ (20 : Int) < (n : Int) := by omega
  clear hC h
  go_enter Tryd.func73, Tryd.ntmps73
  go_wp2_with fail
  refine wp_loop_rounds 1 ?_
  rw [rounds_succ]
  go_wp2_with fail
  refine hX.out.mono ?_
  rintro e w1 ⟨rfl, f1, hA, hM, hS⟩
  replace hA := hidden hA
  replace hM := hidden hM
  replace hS := hidden hS
  clear hX
  go_wp2_with fail
  refine wp_loop_rounds 1 ?_
  rw [rounds_succ]
  go_wp2
  go_end0
  exact ⟨rfl, f1, hA.out, hM.out, hS.out⟩
set_option maxRecDepth 100000 in
set_option maxHeartbeats 6400000 in
theorem stable_even23 (rs : List Int) (gr g c : Nat) (w0 w : World) (hC : Cmp23 rs w0 gr 20) (h : InR w0 g c 20 w id) : StbAt23 rs w0 gr g c 20 w := by
  have hX := hidden (isort_any23 rs gr 0 20 20 g c id w0 w hC (by omega) (Nat.le_refl _) (by omega) (fun x q => q) (fun x y _ q _ => q) h)
  have hN := hidden (fun W => isort_none23 (.func (.func 60) #[] #[.pointer (some ⟨gr, 0, none⟩)]) (.slice (some ⟨g, 0, none⟩) 20 c) 20 20 (Nat.le_refl _) (by omega) W)
  unfold StbAt23 SoAt23 at *
  clear hC h
  go_enter Tryd.func73, Tryd.ntmps73
  go_wp2_with fail
  refine wp_loop_rounds 2 ?_
  rw [rounds_succ]
  go_wp2_with fail
  refine hX.out.mono ?_
  rintro e w1 ⟨rfl, f1, hA, hM, hS⟩
  replace hA := hidden hA
  replace hM := hidden hM
  replace hS := hidden hS
  clear hX
  go_wp2_with fail
  rw [rounds_succ]
  go_wp2_with fail
  refine (hN.out _).mono ?_
  rintro e w2 ⟨rfl, rfl⟩
  go_wp2_with fail
  refine wp_loop_rounds 1 ?_
  rw [rounds_succ]
  go_wp2
  go_end0
  exact ⟨rfl, f1, hA.out, hM.out, hS.out⟩
set_option maxRecDepth 100000 in
set_option maxHeartbeats 6400000 in
theorem stable_more23 (rs : List Int) (gr n g c : Nat) (w0 w : World) (hC : Cmp23 rs w0 gr n) (h1 : 20 < n) (hn : n < 40) (h : InR w0 g c n w id) : StbAt23 rs w0 gr g c n w := by
  have hX := hidden (isort_any23 rs gr 0 20 n g c id w0 w hC (by omega) (by omega) (by omega) (fun x q => q) (fun x y _ q _ => q) h)
  have hY := hidden (fun f1 W (hM : Mix23 id f1 0 20) (hA : InR w0 g c n W f1) => isort_any23 rs gr 20 n n g c f1 w0 W hC h1 (Nat.le_refl _) (by omega) (hM.lt (by omega) (fun x q => q)) (fun x y p q r => by rw [hM.2 x (by omega), hM.2 y (by omega)]; exact q) hA)
  have hZ := hidden (fun f1 f2 W (hM : Mix23 id f1 0 20) (hS : SoR (rsF rs) f1 0 20) (hM2 : Mix23 f1 f2 20 n) (hS2 : SoR (rsF rs) f2 20 n) (hA : InR w0 g c n W f2) => symMerge_any23 rs gr n g c w0 hC (by omega) n 0 20 n f2 W (by omega) (by omega) h1 (Nat.le_refl _) (hM2.lt (Nat.le_refl _) (hM.lt (by omega) (fun x q => q)))
    (fun x y p q r t => by
      rw [hM2.2 x (by omega)]
      obtain ⟨x', x1, x2, x3⟩ := hM.1 x p q
      obtain ⟨y', y1, y2, y3⟩ := hM2.1 y r t
      rw [x3, y3, hM.2 y' (by omega)]
      show x' < y'
      omega) (fun x y p q r => by rw [hM2.2 x (by omega), hM2.2 y (by omega)]; exact hS x y p q r) hS2 hA)
  have hend := hidden (fun f1 f2 f3 (hM : Mix23 id f1 0 20) (hM2 : Mix23 f1 f2 20 n) (hM3 : Mix23 f2 f3 0 n) => show Mix23 id f3 0 n from ((hM.more (Nat.le_refl _) (by omega)).trans (hM2.more (by omega) (Nat.le_refl _))).trans hM3)
  unfold SymAt23 at hZ
  unfold StbAt23 SoAt23 at *
  have hnL : (20 : Int) ≤ (n : Int) := by omega
  have hnM : (20 : Int) < (n : Int) := by omega
  have hnO : ¬ (40 : Int) ≤ (n : Int) := by omega
  have hnP : ¬ (40 : Int) < (n : Int) := by omega
  clear hC h
  go_enter Tryd.func73, Tryd.ntmps73
  go_wp2_with fail
  refine wp_loop_rounds 2 ?_
  rw [rounds_succ]
  go_wp2_with fail
  refine hX.out.mono ?_
  rintro e w1 ⟨rfl, f1, hA, hM, hS⟩
  have hY1 := hidden (hY.out f1 w1 hM hA)
  replace hM := hidden hM
  replace hS := hidden hS
  clear hX hY hA
  go_wp2_with fail
  rw [rounds_succ]
  go_wp2_with fail
  refine hY1.out.mono ?_
  rintro e w2 ⟨rfl, f2, hA, hM2, hS2⟩
  have hZ1 := hidden (hZ.out f1 f2 w2 hM.out hS.out hM2 hS2 hA)
  replace hM2 := hidden hM2
  clear hY1 hZ hA hS2
  go_wp2_with fail
  refine wp_loop_rounds 2 ?_
  rw [rounds_succ]
  go_wp2_with fail
  refine wp_loop_rounds 1 ?_
  rw [rounds_succ]
  go_wp2_with fail
  refine hZ1.out.mono ?_
  rintro e w3 ⟨rfl, f3, hA, hM3, hS3⟩
  have hfin := hidden (hend.out f1 f2 f3 hM.out hM2.out hM3)
  replace hA := hidden hA
  replace hS3 := hidden hS3
  clear hZ1 hM3
  go_wp2_with fail
  rw [rounds_succ]
  go_wp2
  go_end0
  exact ⟨rfl, f3, hA.out, hfin.out, hS3.out⟩
theorem stable_any23 (rs : List Int) (gr n g c : Nat) (w0 w : World) (hC : Cmp23 rs w0 gr n) (h1 : 0 < n) (hn : n < 40) (h : InR w0 g c n w id) : StbAt23 rs w0 gr g c n w := by
  rcases Nat.lt_trichotomy n 20 with q | q | q
  · exact stable_less23 rs gr n g c w0 w hC h1 q h
  · subst q; exact stable_even23 rs gr g c w0 w hC h
  · exact stable_more23 rs gr n g c w0 w hC q hn h
theorem sortStable_any23 (rs : List Int) (gr n g c : Nat) (w0 w : World) (hC : Cmp23 rs w0 gr n) (h1 : 0 < n) (hn : n < 40) (h : InR w0 g c n w id) :
    Calls Tryd.prog 59 #[.slice (some ⟨g, 0, none⟩) n c, .func (.func 60) #[] #[.pointer (some ⟨gr, 0, none⟩)]] w (SoAt23 rs w0 g c n id 0 n) := by
  have hX := hidden (stable_any23 rs gr n g c w0 w hC h1 hn h)
  unfold StbAt23 SoAt23 at *
  clear hC h
  go_enter Tryd.func59, Tryd.ntmps59
  go_wp2_with fail
  refine hX.out.mono ?_
  rintro e w1 ⟨rfl, f1, hA, hM, hS⟩
  replace hA := hidden hA
  replace hM := hidden hM
  replace hS := hidden hS
  clear hX
  go_wp2
  go_end0
  exact ⟨rfl, f1, hA.out, hM.out, hS.out⟩
end Go.Proofs.YtlanggdmdpjfbaaDoor
namespace Go.Proofs.YtlanggdmdpjfbaaDoor
open Go Go.RowKit
set_option linter.unusedVariables false

theorem am23_ways (x : Int) : (decide (0 ≤ x) = false ∧ decide (am23 x) = false) ∨ (decide (0 ≤ x) = true ∧ decide (x ≤ 1000000000000000) = false ∧ decide (am23 x) = false) ∨ (decide (0 ≤ x) = true ∧ decide (x ≤ 1000000000000000) = true ∧ decide (am23 x) = true) := by
  simp only [decide_eq_true_iff, decide_eq_false_iff_not]
  unfold am23
  omega
theorem isAmount_any23 (x : Int) (w : World) : Calls Tryd.prog 56 #[.int .i64 x] w fun e w' => e = .returned (.bool (decide (am23 x))) ∧ w = w' := by
  rcases am23_ways x with ⟨t1, q⟩ | ⟨t1, t2, q⟩ | ⟨t1, t2, q⟩
  all_goals
    replace q := hidden q
    go_enter Tryd.func56, Tryd.ntmps56
    go_wp2
    go_ret
    exact ⟨ret_bool q.out.symm, rfl⟩

/-- Div of a part: it is a number. -/
theorem part_ok {W x S : Int} (hW : am23 W) (hx : 0 ≤ x) (hxS : x ≤ S) (hS : 0 < S) : divOk W x S false = true ∧ divAns W x S false = W * x / S := by
  obtain ⟨h1, h2, _⟩ := fl_fits hW.1 hx hxS hS
  have e : divq W x S false = W * x / S := by unfold divq; simp
  have hw := hW.2
  have hin : in64 (divq W x S false) = true := by rw [e]; exact in64_mk (by omega)
  have hok : divOk W x S false = true := by unfold divOk; rw [hin, decide_eq_true hS]; rfl
  exact ⟨hok, by unfold divAns; rw [if_pos hok, e]⟩
set_option maxHeartbeats 1600000 in
theorem divide_any23 (W x S : Int) (w : World) (hW : am23 W) (hx : 0 ≤ x) (hxS : x ≤ S) (hS : 0 < S) (hS2 : S ≤ 1000000000000000) :
    Calls Tryd.prog 46 #[.int .i64 W, .int .i64 x, .int .i64 S] w fun e w' => e = .returned (.tuple #[.int .i64 (W * x / S), .int .i64 (W * x % S)]) ∧ ∃ k, w' = w.drewN k := by
  obtain ⟨h1, h2, h3, h4, h5⟩ := fl_fits hW.1 hx hxS hS
  obtain ⟨_, k2⟩ := part_ok hW hx hxS hS
  have hw := hW
  unfold am23 at hw
  have hD := hidden (div_any W x S false w (by omega) (by omega) (by omega) (by omega) (by omega))
  rw [k2] at hD
  generalize divOk W x S false = ok at *
  have hr : wrap64 (wrap64 (W * x) - wrap64 (W * x / S * S)) = W * x % S := by
    generalize W * x / S * S = z at *
    generalize W * x % S = r at *
    generalize W * x = y at *
    unfold wrap64
    omega
  replace hr := hidden hr
  generalize hq : W * x / S = q at *
  replace hq := hidden hq
  generalize hrr : W * x % S = r at *
  replace hrr := hidden hrr
  clear h1 h2 h3 h4 h5 k2 hw
  go_enter Tryd.func46, Tryd.ntmps46
  go_wp2_with fail
  refine hD.out.mono ?_
  rintro e w1 ⟨rfl, k, rfl⟩
  clear hD
  go_wp2
  go_ret2
  exact ⟨ret_ii rfl hr.out, _, rfl⟩

/-! Floor. -/
def floC (W x S : Int) : Int := if am23 W ∧ am23 x ∧ am23 S ∧ x ≤ S ∧ S ≠ 0 then 0 else 103
def floV (W x S : Int) : Int := if am23 W ∧ am23 x ∧ am23 S ∧ x ≤ S ∧ S ≠ 0 then W * x / S else 0
theorem fl_ways (W x S : Int) : (decide (am23 W) = false ∧ ¬ (am23 W ∧ am23 x ∧ am23 S ∧ x ≤ S ∧ S ≠ 0)) ∨ (decide (am23 W) = true ∧ decide (am23 x) = false ∧ ¬ (am23 W ∧ am23 x ∧ am23 S ∧ x ≤ S ∧ S ≠ 0)) ∨ (decide (am23 W) = true ∧ decide (am23 x) = true ∧ decide (am23 S) = false ∧ ¬ (am23 W ∧ am23 x ∧ am23 S ∧ x ≤ S ∧ S ≠ 0)) ∨
    (decide (am23 W) = true ∧ decide (am23 x) = true ∧ decide (am23 S) = true ∧ decide (S < x) = true ∧ ¬ (am23 W ∧ am23 x ∧ am23 S ∧ x ≤ S ∧ S ≠ 0)) ∨ (decide (am23 W) = true ∧ decide (am23 x) = true ∧ decide (am23 S) = true ∧ decide (S < x) = false ∧ (S == 0) = true ∧ ¬ (am23 W ∧ am23 x ∧ am23 S ∧ x ≤ S ∧ S ≠ 0)) ∨
    (decide (am23 W) = true ∧ decide (am23 x) = true ∧ decide (am23 S) = true ∧ decide (S < x) = false ∧ (S == 0) = false ∧ (am23 W ∧ am23 x ∧ am23 S ∧ x ≤ S ∧ S ≠ 0)) := by
  by_cases h1 : am23 W
  · by_cases h2 : am23 x
    · by_cases h3 : am23 S
      · by_cases h4 : S < x
        · exact .inr (.inr (.inr (.inl ⟨decide_eq_true h1, decide_eq_true h2, decide_eq_true h3, decide_eq_true h4, fun q => by omega⟩)))
        · by_cases h5 : S = 0
          · exact .inr (.inr (.inr (.inr (.inl ⟨decide_eq_true h1, decide_eq_true h2, decide_eq_true h3, decide_eq_false h4, by simp [h5], fun q => q.2.2.2.2 h5⟩))))
          · exact .inr (.inr (.inr (.inr (.inr ⟨decide_eq_true h1, decide_eq_true h2, decide_eq_true h3, decide_eq_false h4, by simp [h5], h1, h2, h3, by omega, h5⟩))))
      · exact .inr (.inr (.inl ⟨decide_eq_true h1, decide_eq_true h2, decide_eq_false h3, fun q => h3 q.2.2.1⟩))
    · exact .inr (.inl ⟨decide_eq_true h1, decide_eq_false h2, fun q => h2 q.2.1⟩)
  · exact .inl ⟨decide_eq_false h1, fun q => h1 q.1⟩
def tlV (W : Int) (L : List Int) : Int := if shC W L = 0 then smW L else 0
theorem total_take23 (L : List Int) : ∀ k, k ≤ L.length → total (L.take k) = suF (wF L) k
  | 0, _ => rfl
  | k + 1, h => by
    rw [take_snoc0 L k (by omega), total_snoc, total_take23 L k (by omega)]; try rfl
theorem total_all23 (L : List Int) : total L = smW L := by
  have := total_take23 L L.length (Nat.le_refl _)
  rwa [List.take_length] at this
theorem shC_many {W : Int} {L : List Int} (h : 32 < L.length) : shC W L = 105 := if_pos h
theorem shC_whole {W : Int} {L : List Int} (h : ¬ 32 < L.length) (h2 : ¬ am23 W) : shC W L = 103 := by unfold shC; rw [if_neg h, if_pos (.inl h2)]
theorem shC_weight {W : Int} {L : List Int} (h : ¬ 32 < L.length) {k : Nat} (hk : k < L.length) (h2 : ¬ am23 (wF L k)) : shC W L = 103 := by
  have hf : allW L = false := by
    cases q : allW L
    · rfl
    · exact absurd (allW_iff.1 q k hk) h2
  unfold shC
  rw [if_neg h, if_pos (.inr hf)]
theorem shC_sums {W : Int} {L : List Int} (h : ¬ 32 < L.length) (h1 : am23 W) (h2 : ∀ k, k < L.length → am23 (wF L k)) : shC W L = if 1000000000000000 < smW L then 104 else if smW L = 0 ∧ W ≠ 0 then 106 else 0 := by
  unfold shC
  rw [if_neg h, if_neg (by rw [allW_iff.2 h2]; simp [h1])]
def TlRel (L : List Int) (w0 : World) (i : Value) (w : World) : Prop := ∃ k : Nat, k ≤ L.length ∧ i = .int .i64 (k : Int) ∧ (∀ j, j < k → am23 (wF L j)) ∧ w0 = w
set_option maxRecDepth 100000 in
set_option maxHeartbeats 6400000 in
theorem total_any23 (A : Nat → Addr) (W : Int) (v : Value) (L : List Int) (w : World) (hr : Reads .i64 w v L) (hE : ErrsOn [2, 3, 4, 5] w A) :
    Calls Tryd.prog 45 #[.int .i64 W, v] w fun e w' => e = .returned (.tuple #[.int .i64 (tlV W L), errOf A (shC W L)]) ∧ ∃ k, w' = w.drewN k := by
  have c2 : w.cell? ⟨0, 0, none⟩ = some (errAt (A 2)) := hE 2 (by simp)
  have c3 : w.cell? ⟨2, 0, none⟩ = some (errAt (A 3)) := hE 3 (by simp)
  have c4 : w.cell? ⟨1, 0, none⟩ = some (errAt (A 4)) := hE 4 (by simp)
  have c5 : w.cell? ⟨3, 0, none⟩ = some (errAt (A 5)) := hE 5 (by simp)
  have hQ := hidden (fun n => isAmount_any23 n w)
  have hr0 := hidden hr
  obtain ⟨a1, c1, rfl⟩ := reads_slice hr
  have hml : (L.length : Int) ≤ 9223372036854775807 := by
    have := reads_cap hr
    unfold maxLen at this
    omega
  have hx1 := hidden (fun i hi => hr.cell i hi)
  clear hr hE
  by_cases hm : 32 < L.length
  · have hmI : (32 : Int) < (L.length : Int) := by omega
    have e1 := shC_many (W := W) hm
    have hr1 := hidden (show (0 : Int) = tlV W L by unfold tlV; rw [e1]; rfl)
    have hr2 := hidden (show errAt (A 4) = errOf A (shC W L) by rw [e1]; rfl)
    clear e1
    go_enter Tryd.func45, Tryd.ntmps45
    go_wp2_with fail
    go_quiet (fail)
    go_wp2
    go_ret2
    exact ⟨ret_iv hr1.out hr2.out, _, rfl⟩
  · have hmI : ¬ (32 : Int) < (L.length : Int) := by omega
    have hQ1 := hidden (hQ.out W)
    by_cases hW : am23 W
    · rw [decide_eq_true hW] at hQ1
      go_enter Tryd.func45, Tryd.ntmps45
      go_wp2_with fail
      refine hQ1.out.mono ?_
      rintro e w' ⟨rfl, rfl⟩
      clear hQ1
      go_wp2_with fail
      go_loopw [20] (fun i wr => TlRel L w i wr) (fun i _ => L.length - (RowKit.intOf i).toNat)
      case atStart => exact ⟨0, Nat.zero_le _, rfl, fun j hj => by omega, rfl⟩
      case round =>
        obtain ⟨k, hk, rfl, hok, rfl⟩ := hrel
        by_cases hlt : k < L.length
        · obtain ⟨b, o, rfl, q0⟩ := hx1.out k hlt
          have hlI : (k : Int) < (L.length : Int) := by omega
          have hQ1 := hidden (hQ.out (L.getD k 0))
          by_cases hx : am23 (L.getD k 0)
          · rw [decide_eq_true hx] at hQ1
            have hok2 := hidden (show ∀ j, j < k + 1 → am23 (wF L j) from fun j hj => by
              by_cases e : j = k
              · subst e; exact hx
              · exact hok j (by omega))
            generalize L.getD k 0 = x at *
            clear hok hx1 hQ hx
            go_wp2_with fail
            refine hQ1.out.mono ?_
            rintro e w' ⟨rfl, rfl⟩
            clear hQ1
            go_wp2
            go_roundw
            case rel => exact ⟨k + 1, hlt, by go_num, hok2.out, rfl⟩
            case measure => simp [RowKit.intOf]; omega
          · rw [decide_eq_false hx] at hQ1
            have e1 := shC_weight (W := W) hm hlt hx
            have hr1 := hidden (show (0 : Int) = tlV W L by unfold tlV; rw [e1]; rfl)
            have hr2 := hidden (show errAt (A 2) = errOf A (shC W L) by rw [e1]; rfl)
            generalize L.getD k 0 = x at *
            clear hok hx1 hQ hx e1
            go_wp2_with fail
            refine hQ1.out.mono ?_
            rintro e w' ⟨rfl, rfl⟩
            clear hQ1
            go_wp2_with fail
            go_quiet (fail)
            go_wp2
            go_ret2
            exact ⟨ret_iv hr1.out hr2.out, _, rfl⟩
        · obtain rfl : k = L.length := by omega
          have e1 := shC_sums hm hW hok
          have hbd : 0 ≤ smW L ∧ smW L ≤ 32000000000000000 := by
            refine ⟨suF_pos fun i hi => (hok i hi).1, ?_⟩
            have := suF_lt (f := wF L) (c := 1000000000000001) (k := L.length) fun i hi => by have := (hok i hi).2; omega
            unfold smW; omega
          have hS := hidden (sum_any (.slice a1 L.length c1) L _ hr0.out (by omega) (fun x hx => by
            obtain ⟨i, hi, rfl⟩ := List.getElem_of_mem hx
            have := hok i hi
            unfold wF am23 at this
            rw [List.getD_eq_getElem?_getD, List.getElem?_eq_getElem hi] at this
            simp only [Option.getD_some] at this
            omega))
          rw [total_all23, cap64_yes (in64_mk (by omega)), in64_mk (by omega)] at hS
          clear hok hx1 hQ hr0
          by_cases h1 : 1000000000000000 < smW L
          · rw [if_pos h1] at e1
            have hr1 := hidden (show (0 : Int) = tlV W L by unfold tlV; rw [e1]; rfl)
            have hr2 := hidden (show errAt (A 3) = errOf A (shC W L) by rw [e1]; rfl)
            clear e1
            generalize smW L = S at *
            have hd1 : decide (1000000000000000 < S) = true := decide_eq_true h1
            go_wp2_with fail
            refine hS.out.mono ?_
            rintro e w' ⟨rfl, rfl⟩
            clear hS
            go_wp2_with fail
            go_quiet (fail)
            go_wp2
            go_ret2
            exact ⟨ret_iv hr1.out hr2.out, _, rfl⟩
          · rw [if_neg h1] at e1
            by_cases h2 : smW L = 0 ∧ W ≠ 0
            · rw [if_pos h2] at e1
              have hr1 := hidden (show (0 : Int) = tlV W L by unfold tlV; rw [e1]; rfl)
              have hr2 := hidden (show errAt (A 5) = errOf A (shC W L) by rw [e1]; rfl)
              clear e1
              rw [h2.1] at hS
              have hW0 : ¬ W = 0 := h2.2
              have hd1 : (W != 0) = true := by simp; exact hW0
              clear h2
              go_wp2_with fail
              refine hS.out.mono ?_
              rintro e w' ⟨rfl, rfl⟩
              clear hS
              go_wp2_with fail
              go_quiet (fail)
              go_wp2
              go_ret2
              exact ⟨ret_iv hr1.out hr2.out, _, rfl⟩
            · rw [if_neg h2] at e1
              have hr1 := hidden (show smW L = tlV W L by unfold tlV; rw [e1]; rfl)
              have hr2 := hidden (show Value.nilIface = errOf A (shC W L) by rw [e1]; rfl)
              clear e1
              generalize smW L = S at *
              have hd1 : decide (1000000000000000 < S) = false := decide_eq_false h1
              by_cases h3 : S = 0
              · subst h3
                obtain rfl : W = 0 := by
                  by_cases q : W = 0
                  · exact q
                  · exact absurd ⟨rfl, q⟩ h2
                clear h2
                go_wp2_with fail
                refine hS.out.mono ?_
                rintro e w' ⟨rfl, rfl⟩
                clear hS
                go_wp2
                go_ret2
                exact ⟨ret_iv hr1.out hr2.out, 0, rfl⟩
              · have hd2 : (S == 0) = false := by simp; exact h3
                clear h2
                go_wp2_with fail
                refine hS.out.mono ?_
                rintro e w' ⟨rfl, rfl⟩
                clear hS
                go_wp2
                go_ret2
                exact ⟨ret_iv hr1.out hr2.out, 0, rfl⟩
    · rw [decide_eq_false hW] at hQ1
      have e1 := shC_whole (L := L) hm hW
      have hr1 := hidden (show (0 : Int) = tlV W L by unfold tlV; rw [e1]; rfl)
      have hr2 := hidden (show errAt (A 2) = errOf A (shC W L) by rw [e1]; rfl)
      clear e1 hx1 hQ
      go_enter Tryd.func45, Tryd.ntmps45
      go_wp2_with fail
      refine hQ1.out.mono ?_
      rintro e w' ⟨rfl, rfl⟩
      clear hQ1
      go_wp2_with fail
      go_quiet (fail)
      go_wp2
      go_ret2
      exact ⟨ret_iv hr1.out hr2.out, _, rfl⟩
end Go.Proofs.YtlanggdmdpjfbaaDoor
namespace Go.Proofs.YtlanggdmdpjfbaaDoor
open Go Go.RowKit
set_option linter.unusedVariables false

/-! A row of numbers of 64 bits, a block's own. -/
def Nu23 (T : TypeId) (w : World) (g : Nat) (l : List Int) : Prop := w.heap[g]? = some (.cells (l.map (Value.int .i64)).toArray T (0, 0))
section
variable {T : TypeId} {w w' : World} {g : Nat} {l : List Int}
theorem Nu23.cell (h : Nu23 T w g l) {i : Nat} (hi : i < l.length) : w.cell? ⟨g, i, none⟩ = some (.int .i64 (l.getD i 0)) := by
  rw [cell_of_row _ _ _ _ _ _ h, List.getElem?_toArray, List.getElem?_map, List.getD_eq_getElem?_getD, List.getElem?_eq_getElem hi]
  rfl
theorem Nu23.frozen (h : Nu23 T w g l) (i : Nat) : w.frozen? ⟨g, i, none⟩ = false := by
  have := h
  unfold Nu23 at this
  simp [World.frozen?, this]
theorem Nu23.set (h : Nu23 T w g l) (i : Nat) (x : Int) : Nu23 T (w.setCell ⟨g, i, none⟩ (.int .i64 x)) g (l.set i x) := by
  unfold Nu23
  rw [heap_setCell_row h]
  simp
theorem Nu23.lt (h : Nu23 T w g l) : g < w.heap.size := (Array.getElem?_eq_some_iff.1 h).1
theorem Nu23.below (h : Nu23 T w g l) (hb : Below w.heap.size w w') : Nu23 T w' g l := by
  have hl := h.lt
  unfold Nu23 at h ⊢
  rw [hb.block g (by omega)]
  exact h
theorem Nu23.drew (h : Nu23 T w g l) : Nu23 T w.drew g l := h
theorem Nu23.drewN (h : Nu23 T w g l) (k : Nat) : Nu23 T (w.drewN k) g l := h
theorem Nu23.reads (h : Nu23 T w g l) {n : Nat} (hn : l.length = n) (hm : n ≤ 1000000) : Reads .i64 w (.slice (some ⟨g, 0, none⟩) n n) l := reads_block h hn hm
theorem Nu23.new (T : TypeId) (w : World) (n : Nat) : Nu23 T (w.alloc (.cells (Array.replicate n (.int .i64 0)) T)) w.heap.size (List.replicate n 0) := by
  unfold Nu23
  rw [heap_alloc_new w _]
  simp
end
theorem mk_ints23 (n : Nat) (hn : n ≤ 1000000) (W : World) : (Instr.makeSlice 95 (.int .i64 n) (.int .i64 n)).run Tryd.prog W = .ok (.slice (some ⟨W.heap.size, 0, none⟩) n n) (W.alloc (.cells (Array.replicate n (.int .i64 0)) 3)) := by
  obtain ⟨i0, hi, hz0, hz1, hz2⟩ := info_parts (show (Tryd.prog.info? 3).map (fun i => (i.zero, i.size, i.bytes)) = some (some (.int .i64 0), 1, 8) by kernel_rfl)
  have := run_make (P := Tryd.prog) W 95 3 i0 _ Tryd.underlying95 hi hz0 .i64 .i64 n n (by omega) (by omega) (by rw [hz2]; omega) (by omega)
  rw [this, Int.toNat_natCast, hz1, Nat.mul_one]
  have e : madeCells (Value.int .i64 0).cells n = Array.replicate n (.int .i64 0) := by
    apply Array.ext'
    show (madeCells #[Value.int .i64 0] n).toList = _
    rw [toList_madeCells_one]
    simp
  rw [e]
theorem mk_longs23 (n : Nat) (hn : n ≤ 1000000) (W : World) : (Instr.makeSlice 23 (.int .i64 n) (.int .i64 n)).run Tryd.prog W = .ok (.slice (some ⟨W.heap.size, 0, none⟩) n n) (W.alloc (.cells (Array.replicate n (.int .i64 0)) 2)) := by
  obtain ⟨i0, hi, hz0, hz1, hz2⟩ := info_parts (show (Tryd.prog.info? 2).map (fun i => (i.zero, i.size, i.bytes)) = some (some (.int .i64 0), 1, 8) by kernel_rfl)
  have := run_make (P := Tryd.prog) W 23 2 i0 _ Tryd.underlying23 hi hz0 .i64 .i64 n n (by omega) (by omega) (by rw [hz2]; omega) (by omega)
  rw [this, Int.toNat_natCast, hz1, Nat.mul_one]
  have e : madeCells (Value.int .i64 0).cells n = Array.replicate n (.int .i64 0) := by
    apply Array.ext'
    show (madeCells #[Value.int .i64 0] n).toList = _
    rw [toList_madeCells_one]
    simp
  rw [e]

/-! falling. -/
theorem InR.put {w0 : World} {g c n : Nat} {w : World} {f : Nat → Nat} (h : InR w0 g c n w f) (i v : Nat) : InR w0 g c n (w.setCell ⟨g, i, none⟩ (.int .i64 (v : Int))) (fun x => if x = i then v else f x) := by
  refine ⟨?_, h.low.setCell (p := ⟨g, i, none⟩) h.above _⟩
  rw [← intF_set]
  exact set_row23 (intF_len f n) h.own i _
theorem InR.new (w0 : World) (n : Nat) (hn : n ≤ 1000000) : InR w0 w0.heap.size n n (w0.alloc (.cells (Array.replicate n (.int .i64 0)) inT23)) (fun x => if x < 0 then x else 0) := by
  refine ⟨⟨by rw [List.length_map, intF_len, Nat.mul_one], .inr ⟨w0.heap.size, n, _, rfl, Nat.le_refl _, heap_alloc_new w0 _, Nat.le_refl _, by unfold maxLen; omega, by simp, ?_⟩⟩, (Below.refl _ w0).alloc (Nat.le_refl _) _⟩
  refine List.ext_getElem (by simp [intF]) fun k h1 h2 => ?_
  simp [intF]
/-- what falling leaves: the places in order, in a row of the call's own. -/
def FaAt23 (rs : List Int) (w : World) (e : Ending) (w' : World) : Prop := ∃ (g : Nat) (f : Nat → Nat), e = .returned (.slice (some ⟨g, 0, none⟩) rs.length rs.length) ∧ w.heap.size ≤ g ∧ (∀ i, i < rs.length → w'.cell? ⟨g, i, none⟩ = some (.int .i64 (f i : Int))) ∧ (∀ x, x < rs.length → f x < rs.length) ∧ SoR (rsF rs) f 0 rs.length ∧ Below w.heap.size w w'
def FaRel23 (w0 : World) (g n : Nat) (i : Value) (w : World) : Prop := ∃ k : Nat, k ≤ n ∧ i = .int .i64 (k : Int) ∧ InR w0 g n n w (fun x => if x < k then x else 0)
set_option maxRecDepth 100000 in
set_option maxHeartbeats 6400000 in
theorem falling_any23 (v : Value) (rs : List Int) (w : World) (hr : Reads .i64 w v rs) (h1 : 0 < rs.length) (hn : rs.length < 40) :
    Calls Tryd.prog 47 #[v] w (FaAt23 rs w) := by
  have hmf : ∀ (fn : Fn) (first cap : Array Value) (w : World), (Instr.makeFunc fn first cap).run Tryd.prog w = .ok (.func fn first cap) w := fun _ _ _ _ => rfl
  obtain ⟨a, c, rfl⟩ := reads_slice hr
  have hb0 : Below w.heap.size w (w.alloc (.cells #[.slice a rs.length c] 23)) := (Below.refl _ w).alloc (Nat.le_refl _) _
  have hg : (w.alloc (.cells #[.slice a rs.length c] 23)).cell? ⟨w.heap.size, 0, none⟩ = some (.slice a rs.length c) := by rw [cell_of_row _ _ _ _ _ _ (heap_alloc_new w (.cells #[.slice a rs.length c] 23))]; rfl
  have hRs : RsIn (w.alloc (.cells #[.slice a rs.length c] 23)) w.heap.size rs := ⟨_, hg, hr.below hb0 (Nat.le_refl _)⟩
  have hC := cmp_in23 hRs rfl
  have hsz : (w.alloc (.cells #[.slice a rs.length c] 23)).heap.size = w.heap.size + 1 := by simp
  have hst := InR.new (w.alloc (.cells #[.slice a rs.length c] 23)) rs.length (by omega)
  rw [hsz] at hst
  have hS := hidden (fun (W : World) (hW : InR (w.alloc (.cells #[.slice a rs.length c] 23)) (w.heap.size + 1) rs.length rs.length W id) => sortStable_any23 rs w.heap.size rs.length (w.heap.size + 1) rs.length _ W hC h1 hn hW)
  have hmk := mk_ints23 rs.length (by omega)
  replace hst := hidden hst
  replace hsz := hidden hsz
  replace hb0 := hidden hb0
  have hnI : (rs.length : Int) < 40 := by omega
  unfold FaAt23
  unfold SoAt23 at hS
  clear hr hRs hC
  go_enter Tryd.func47, Tryd.ntmps47
  go_wp2_with fail
  go_loopw [10] (fun i wr => FaRel23 (w.alloc (.cells #[.slice a rs.length c] 23)) (w.heap.size + 1) rs.length i wr) (fun i _ => rs.length - (RowKit.intOf i).toNat)
  case atStart => exact ⟨0, Nat.zero_le _, rfl, hst.out⟩
  case round =>
    clear hst
    obtain ⟨k, hk, rfl, hA⟩ := hrel
    by_cases hlt : k < rs.length
    · have hkI : (k : Int) < (rs.length : Int) := by omega
      have ck := hA.cell hlt
      have fk := hA.frozen k
      have hA2 := hidden ((hA.put k k).same (f' := fun x => if x < k + 1 then x else 0) fun x _ => by
        show (if x = k then k else if x < k then x else 0) = if x < k + 1 then x else 0
        by_cases e : x = k
        · rw [if_pos e, if_pos (by omega)]; exact e.symm
        · rw [if_neg e]
          by_cases e2 : x < k
          · rw [if_pos e2, if_pos (by omega)]
          · rw [if_neg e2, if_neg (by omega)])
      clear hA
      generalize ((if k < k then k else 0 : Nat) : Int) = z at *
      go_wp2_with fail
      try go_wp2
      go_roundw
      case rel => exact ⟨k + 1, hlt, by go_num, hA2.out⟩
      case measure => simp [RowKit.intOf]; omega
    · obtain rfl : k = rs.length := by omega
      have hA2 := hidden (hS.out _ (hA.same (f' := id) fun x hx => by
        show (if x < rs.length then x else 0) = x
        rw [if_pos hx]))
      clear hA hS
      go_wp2_with fail
      refine hA2.out.mono ?_
      rintro e w1 ⟨rfl, f1, hA, hM, hSo⟩
      replace hA := hidden hA
      replace hM := hidden hM
      replace hSo := hidden hSo
      clear hA2
      go_wp2
      go_ret
      exact ⟨_, f1, rfl, by omega, fun i hi => hA.out.cell hi, hM.out.lt (Nat.le_refl _) (fun x q => q), hSo.out, hb0.out.trans (hA.out.low.mono (by rw [hsz.out]; omega))⟩
end Go.Proofs.YtlanggdmdpjfbaaDoor
namespace Go.Proofs.YtlanggdmdpjfbaaDoor
open Go Go.RowKit
set_option linter.unusedVariables false

theorem Nu23.other {T : TypeId} {w : World} {g b o : Nat} {l : List Int} {v : Value} (h : Nu23 T w g l) (hn : g ≠ b) : Nu23 T (w.setCell ⟨b, o, none⟩ v) g l := by
  unfold Nu23
  rw [Below.heap_setCell _ _ _ _ (by exact hn)]
  exact h
/-- a row that is filled from its beginning. -/
def upL (f : Nat → Int) (n k : Nat) : List Int := (List.range n).map fun i => if i < k then f i else 0
theorem upL_len (f : Nat → Int) (n k : Nat) : (upL f n k).length = n := by simp [upL]
theorem upL_zero (f : Nat → Int) (n : Nat) : upL f n 0 = List.replicate n 0 := by
  unfold upL
  refine List.ext_getElem (by simp) fun k h1 h2 => ?_
  simp
theorem upL_get {f : Nat → Int} {n k i : Nat} (h : i < (upL f n k).length) : (upL f n k)[i] = if i < k then f i else 0 := by simp [upL]
theorem upL_set (f : Nat → Int) (n k : Nat) : (upL f n k).set k (f k) = upL f n (k + 1) := by
  refine List.ext_getElem (by simp [upL]) fun j h1 h2 => ?_
  simp only [List.length_set, upL_len] at h1
  rw [List.getElem_set, upL_get, upL_get]
  by_cases e : k = j
  · subst e; rw [if_pos rfl, if_pos (by omega)]
  · rw [if_neg e]
    by_cases q : j < k
    · rw [if_pos q, if_pos (by omega)]
    · rw [if_neg q, if_neg (by omega)]
theorem upL_end (f : Nat → Int) (n : Nat) : upL f n n = (List.range n).map f := List.map_congr_left fun x hx => by rw [if_pos (List.mem_range.1 hx)]
theorem upL_at (f : Nat → Int) {n k i : Nat} (h : i < n) : (upL f n k).getD i 0 = if i < k then f i else 0 := by
  unfold upL
  rw [List.getD_eq_getElem?_getD, List.getElem?_map, List.getElem?_range h]; rfl

theorem errOf_bad23 (A : Nat → Addr) {c : Int} (h : c ≠ 0) : ∃ a, errOf A c = errAt a := ⟨_, if_neg h⟩
/-- what Split answers. -/
def spA (W : Int) (L : List Int) : List Int := if shC W L = 0 then shL W L else []
def SpAt23 (A : Nat → Addr) (W : Int) (L : List Int) (w : World) (e : Ending) (w' : World) : Prop := ∃ v', e = .returned (.tuple #[v', errOf A (shC W L)]) ∧ Reads .i64 w' v' (spA W L) ∧ Below w.heap.size w w'
def SpOwn23 (A : Nat → Addr) (W : Int) (L : List Int) (w : World) (e : Ending) (w' : World) : Prop := ∃ v', e = .returned (.tuple #[v', errOf A (shC W L)]) ∧ Reads .i64 w' v' (spA W L) ∧ (∀ b, v'.ownBlock = some b → w.heap.size ≤ b) ∧ Below w.heap.size w w'
theorem own_at23 (B : Nat) (n c : Nat) : ∀ b, (Value.slice (some ⟨B, 0, none⟩) n c).ownBlock = some b → B ≤ b := fun b hb => by
  simp [Value.ownBlock] at hb; omega
theorem own_nil23 (B : Nat) : ∀ b, (Value.slice none 0 0).ownBlock = some b → B ≤ b := fun b hb => by
  simp [Value.ownBlock] at hb
def SpRel1 (W : Int) (L : List Int) (w0 : World) (P Q : Nat) (left i : Value) (w : World) : Prop := ∃ k : Nat, k ≤ L.length ∧ i = .int .i64 (k : Int) ∧ left = .int .i64 (W - suF (flF W L) k) ∧ Nu23 2 w P (upL (flF W L) L.length k) ∧ Nu23 2 w Q (upL (reF W L) L.length k) ∧ Below w0.heap.size w0 w
def SpRel2 (W : Int) (L : List Int) (w0 : World) (P G t : Nat) (f : Nat → Nat) (i : Value) (w : World) : Prop := ∃ k : Nat, k ≤ t ∧ i = .int .i64 (k : Int) ∧ Nu23 2 w P (ptL W L k) ∧ (∀ j, j < L.length → w.cell? ⟨G, j, none⟩ = some (.int .i64 (f j : Int))) ∧ Below w0.heap.size w0 w
set_option maxRecDepth 100000 in
set_option maxHeartbeats 6400000 in
theorem split_own23 (A : Nat → Addr) (W : Int) (v : Value) (L : List Int) (w : World) (hr : Reads .i64 w v L) (hE : ErrsOn [2, 3, 4, 5] w A) :
    Calls Tryd.prog 36 #[.int .i64 W, v] w (SpOwn23 A W L w) := by
  have hT := total_any23 A W v L w hr hE
  unfold SpOwn23
  by_cases h0 : shC W L = 0
  · have hok := shC_fine.1 h0
    have htl : tlV W L = smW L := if_pos h0
    have hsp := hidden (show spA W L = shL W L from if_pos h0)
    rw [h0, errOf_fine, htl] at hT
    rw [h0, errOf_fine]
    replace hT := hidden hT
    obtain ⟨a1, c1, rfl⟩ := reads_slice hr
    have hlen := hok.len
    have hmk := mk_longs23 L.length (by omega)
    by_cases hS : smW L = 0
    · have hz := hidden (sh_zero hS (hok.fit hS))
      rw [hS] at hT
      clear hr hE h0 htl
      go_enter Tryd.func36, Tryd.ntmps36
      go_wp2_with fail
      refine hT.out.mono ?_
      rintro e w1 ⟨rfl, m, rfl⟩
      clear hT
      have hN := hidden (Nu23.new 2 (w.drewN m) L.length)
      have hb := hidden (((Below.refl w.heap.size w).trans ⟨rfl, rfl, rfl, Nat.le_refl _, fun _ _ => rfl⟩ : Below w.heap.size w (w.drewN m)).alloc (Nat.le_refl _) (.cells (Array.replicate L.length (.int .i64 0)) 2))
      go_wp2
      go_ret2
      exact ⟨_, rfl, by rw [hsp.out, hz.out]; exact hN.out.reads (by simp) (by omega), own_at23 _ _ _, hb.out⟩
    · have hS0 : 0 < smW L := by have := hok.pos; omega
      have hS2 := hok.sum
      have hlb := hok.left_bd hS0
      have hsome := hok.some hS0
      obtain ⟨t, ht⟩ : ∃ t : Nat, lfW W L = (t : Int) := ⟨(lfW W L).toNat, by omega⟩
      have htn : t < L.length := by omega
      have hshl := hidden (show shL W L = ptL W L t from by unfold shL; rw [ht]; rfl)
      have hx := hidden (fun k hk W' (hW : Below w.heap.size w W') => (hr.below hW (Nat.le_refl _)).cell k hk)
      have hfl := hidden (fun k (hk : k < L.length) => hok.fl hS0 hk)
      have hD := hidden (fun k (hk : k < L.length) (W' : World) => show Calls Tryd.prog 46 #[.int .i64 W, .int .i64 (wF L k), .int .i64 (smW L)] W' (fun e w' => e = .returned (.tuple #[.int .i64 (flF W L k), .int .i64 (reF W L k)]) ∧ ∃ k, w' = W'.drewN k) from divide_any23 W (wF L k) (smW L) W' hok.w (hok.all k hk).1 (hok.le hk) hS0 hS2)
      have hlfe := hidden (show W - suF (flF W L) L.length = (t : Int) from ht)
      have hWb := hidden hok.w
      have hsub := hidden (fun k (hk : k < L.length) => show 0 ≤ suF (flF W L) k ∧ suF (flF W L) (k + 1) = suF (flF W L) k + flF W L k ∧ suF (flF W L) (k + 1) ≤ W from by
        refine ⟨suF_pos fun i hi => (hok.fl hS0 (by omega)).1, rfl, ?_⟩
        have h1 := suF_upto (f := flF W L) (k := L.length) (fun i hi => (hok.fl hS0 hi).1) (k + 1) (by omega)
        unfold lfW at hlb
        omega)
      have hpt := hidden (fun (k p : Nat) (hp : p < L.length) => show 0 ≤ ptF W L k p ∧ ptF W L k p ≤ 1000000000000001 from by
        have h1 := hok.fl hS0 hp
        have h2 := hok.w.2
        unfold ptF
        split <;> omega)
      have hrk := hidden (fun (f : Nat → Nat) (hf : ∀ x, x < L.length → f x < L.length) (hs : SoR (rsF (upL (reF W L) L.length L.length)) f 0 L.length) (x : Nat) (hx : x < L.length) => show rkW W L (f x) = x from
        rk_at hf (fun p q h1 h2 h3 => by
          have := hs p q h1 h2 h3
          have e1 : ∀ y, y < L.length → rsF (upL (reF W L) L.length L.length) y = reF W L y := fun y hy => by unfold rsF; rw [upL_at _ hy, if_pos hy]
          unfold LtR at this ⊢
          rw [e1 _ (hf p (by omega)), e1 _ (hf q h3)] at this
          exact this) hx)
      have hF := hidden (fun W' (Q : Nat) (hN : Nu23 2 W' Q (upL (reF W L) L.length L.length)) => falling_any23 (.slice (some ⟨Q, 0, none⟩) L.length L.length) _ W' (hN.reads (upL_len _ _ _) (by omega)) (by rw [upL_len]; exact hsome) (by rw [upL_len]; omega))
      unfold FaAt23 at hF
      rw [upL_len] at hF
      have hSd : (smW L == 0) = false := by simp; exact hS
      have hp0 := hidden (pt_none (W := W) (L := L))
      clear hr hE h0 htl hok hS hS0 hS2 hlb ht
      generalize smW L = S at *
      go_enter Tryd.func36, Tryd.ntmps36
      go_wp2_with fail
      refine hT.out.mono ?_
      rintro e w1 ⟨rfl, m, rfl⟩
      clear hT
      have hN1 := Nu23.new 2 (w.drewN m) L.length
      have hb1 : Below w.heap.size w ((w.drewN m).alloc (.cells (Array.replicate L.length (.int .i64 0)) 2)) := ((Below.refl w.heap.size w).trans ⟨rfl, rfl, rfl, Nat.le_refl _, fun _ _ => rfl⟩ : Below w.heap.size w (w.drewN m)).alloc (Nat.le_refl _) _
      have hN2 := Nu23.new 2 ((w.drewN m).alloc (.cells (Array.replicate L.length (.int .i64 0)) 2)) L.length
      have hbA := (Below.refl _ ((w.drewN m).alloc (.cells (Array.replicate L.length (.int .i64 0)) 2))).alloc (Nat.le_refl _) (.cells (Array.replicate L.length (.int .i64 0)) 2)
      have hN3 := hN1.below hbA
      have hb2 := hb1.trans (hbA.mono hb1.size)
      have hsz : ((w.drewN m).alloc (.cells (Array.replicate L.length (.int .i64 0)) 2)).heap.size = w.heap.size + 1 := by simp
      have hsz0 : (w.drewN m).heap.size = w.heap.size := rfl
      rw [hsz] at hN2
      rw [hsz0] at hN3
      have hst := hidden (show SpRel1 W L w w.heap.size (w.heap.size + 1) (.int .i64 W) (.int .i64 0) _ from ⟨0, Nat.zero_le _, rfl, by simp [suF], by rw [upL_zero]; exact hN3, by rw [upL_zero]; exact hN2, hb2⟩)
      clear hN1 hN2 hN3 hb1 hb2 hbA hsz hsz0
      go_wp2_with fail
      go_loopw [10, 36] (fun l i wr => SpRel1 W L w w.heap.size (w.heap.size + 1) l i wr) (fun _ i _ => L.length - (RowKit.intOf i).toNat)
      case atStart => exact hst.out
      case round =>
        clear hst
        obtain ⟨k, hk, rfl, rfl, hP, hQ, hb⟩ := hrel
        by_cases hlt : k < L.length
        · obtain ⟨b, o, rfl, q0⟩ := hx.out k hlt _ hb
          rw [show L.getD k 0 = wF L k from rfl] at q0
          have hlI : (k : Int) < (L.length : Int) := by omega
          have hD1 := hidden (hD.out k hlt wr)
          have cP := hP.cell (i := k) (by rw [upL_len]; exact hlt)
          have cQ := hQ.cell (i := k) (by rw [upL_len]; exact hlt)
          have fP := hP.frozen k
          have fQ := hQ.frozen k
          have hP2 := hidden (fun m => (((hP.drewN m).set k (flF W L k)).other (b := w.heap.size + 1) (o := k) (v := .int .i64 (reF W L k)) (by omega)))
          have hQ2 := hidden (fun m => (((hQ.drewN m).other (b := w.heap.size) (o := k) (v := .int .i64 (flF W L k)) (by omega)).set k (reF W L k)))
          rw [upL_set] at hP2 hQ2
          have hb2 := hidden (fun m => ((below_drewN (m := m) hb).setCell (p := ⟨w.heap.size, k, none⟩) (Nat.le_refl _) (.int .i64 (flF W L k))).setCell (p := ⟨w.heap.size + 1, k, none⟩) (Nat.le_succ _) (.int .i64 (reF W L k)))
          obtain ⟨s1, s2, s3⟩ := hsub.out k hlt
          have hW2 := hWb.out.2
          have hf2 := (hfl.out k hlt).1
          have hl2 := hidden (show W - suF (flF W L) k - flF W L k = W - suF (flF W L) (k + 1) from by omega)
          have hwl : IntKind.i64.wrap (W - suF (flF W L) k - flF W L k) = W - suF (flF W L) (k + 1) := by rw [IntKind.wrap_i64]; omega
          generalize hl' : W - suF (flF W L) (k + 1) = l' at *
          replace hl' := hidden hl'
          clear hP hQ hb hD hx hsub s1 s2 s3 hW2 hf2 hfl hl2
          generalize suF (flF W L) k = s0 at *
          generalize (upL (flF W L) L.length k).getD k 0 = z1 at *
          generalize (upL (reF W L) L.length k).getD k 0 = z2 at *
          generalize flF W L k = q at *
          generalize reF W L k = r at *
          generalize wF L k = x at *
          go_wp2_with fail
          refine hD1.out.mono ?_
          rintro e w1 ⟨rfl, m1, rfl⟩
          clear hD1
          go_wp2_with fail
          go_roundw
          case rel => exact ⟨k + 1, hlt, by go_num, by rw [hl'.out], hP2.out _, hQ2.out _, hb2.out _⟩
          case measure => simp [RowKit.intOf]; omega
        · obtain rfl : k = L.length := by omega
          have hF1 := hidden (hF.out _ _ hQ)
          rw [upL_end, ← hp0.out] at hP
          have hP1 := hidden (fun W' (hW : Below wr.heap.size wr W') => hP.below hW)
          have hb1 := hidden (fun W' (hW : Below wr.heap.size wr W') => hb.trans (hW.mono hb.size))
          have hPl := hidden (show w.heap.size < wr.heap.size from hP.lt)
          have hl0 := hlfe.out
          have htI : (t : Int) ≤ (L.length : Int) := by omega
          have htN : t ≤ L.length := by omega
          have ht0 : (0 : Int) ≤ (t : Int) := by omega
          rw [hl0]
          clear hP hQ hb hF hD hx hsub hfl hp0 hl0
          go_wp2_with fail
          refine hF1.out.mono ?_
          rintro e w1 ⟨G, f, rfl, hG, hc, hf, hso, hb5⟩
          have hP3 := hP1.out _ hb5
          have hb3 := hb1.out _ hb5
          have hst := hidden (show SpRel2 W L w w.heap.size G t f (.int .i64 0) w1 from ⟨0, Nat.zero_le _, rfl, hP3, hc, hb3⟩)
          have hrk2 := hidden (hrk.out f hf hso)
          have hne : G ≠ w.heap.size := by have := hPl.out; omega
          have hf' := hidden hf
          clear hF1 hP1 hb1 hP3 hb3 hc hso hrk hf hb5
          go_wp2_with fail
          go_loopw [66] (fun i wr => SpRel2 W L w w.heap.size G t f i wr) (fun i _ => t - (RowKit.intOf i).toNat)
          case atStart => exact hst.out
          case round =>
            clear hst
            obtain ⟨k, hk, rfl, hP, hc, hb⟩ := hrel
            by_cases hlt : k < t
            · have hkI : (k : Int) < (t : Int) := by omega
              have hkn : k < L.length := by omega
              have ck := hc k hkn
              have hpn := hf'.out k hkn
              have hpr := hrk2.out k hkn
              have hpi : (f k : Int) < (L.length : Int) := by omega
              have hpb := hpt.out k (f k) hpn
              have cP := hP.cell (i := f k) (by rw [ptL_len]; exact hpn)
              rw [ptL_at _ _ _ hpn] at cP
              have fP := hP.frozen (f k)
              have hP2 := hidden (hP.set (f k) (ptF W L k (f k) + 1))
              rw [pt_next hpn hpr] at hP2
              have hc2 := hidden (fun (v : Value) j (hj : j < L.length) => show (wr.setCell ⟨w.heap.size, f k, none⟩ v).cell? ⟨G, j, none⟩ = some (.int .i64 (f j : Int)) from by
                rw [World.cell?_of_block (w := wr) (Below.heap_setCell _ _ _ _ (by exact hne))]; exact hc j hj)
              have hb2 := hidden (hb.setCell (p := ⟨w.heap.size, f k, none⟩) (Nat.le_refl _) (.int .i64 (ptF W L k (f k) + 1)))
              have hw1 : IntKind.i64.wrap (ptF W L k (f k) + 1) = ptF W L k (f k) + 1 := by rw [IntKind.wrap_i64]; omega
              clear hP hc hb hpb hpr
              generalize ptF W L k (f k) = z at *
              generalize hfk : f k = p at *
              replace hfk := hidden hfk
              go_wp2_with fail
              go_roundw
              case rel => exact ⟨k + 1, hlt, by go_num, hP2.out, hc2.out _, hb2.out⟩
              case measure => simp [RowKit.intOf]; omega
            · obtain rfl : k = t := by omega
              have hend := hidden (hP.reads (n := L.length) (ptL_len _ _ _) (by omega))
              replace hb := hidden hb
              clear hP hc
              go_wp2
              go_ret2
              exact ⟨_, rfl, by rw [hsp.out, hshl.out]; exact hend.out, own_at23 _ _ _, hb.out⟩
  · obtain ⟨a, ha⟩ := errOf_bad23 A h0
    have hsp := hidden (show spA W L = [] from if_neg h0)
    rw [ha] at hT
    rw [ha]
    replace hT := hidden hT
    clear hr hE h0 ha
    go_enter Tryd.func36, Tryd.ntmps36
    go_wp2_with fail
    refine hT.out.mono ?_
    rintro e w1 ⟨rfl, m, rfl⟩
    clear hT
    go_wp2
    go_ret2
    exact ⟨_, rfl, by rw [hsp.out]; exact Reads.nil _ _, own_nil23 _, below_drewN (Below.refl _ _)⟩
theorem split_any23 (A : Nat → Addr) (W : Int) (v : Value) (L : List Int) (w : World) (hr : Reads .i64 w v L) (hE : ErrsOn [2, 3, 4, 5] w A) :
    Calls Tryd.prog 36 #[.int .i64 W, v] w (SpAt23 A W L w) :=
  (split_own23 A W v L w hr hE).mono fun e w' h => by
    obtain ⟨v', h1, h2, _, h4⟩ := h
    exact ⟨v', h1, h2, h4⟩
end Go.Proofs.YtlanggdmdpjfbaaDoor
namespace Go.Proofs.YtlanggdmdpjfbaaDoor
open Go Go.RowKit
set_option linter.unusedVariables false

theorem spA_first : shC 10 [1, 1, 1] = 0 ∧ spA 10 [1, 1, 1] = [4, 3, 3] := by decide +kernel
end Go.Proofs.YtlanggdmdpjfbaaDoor
