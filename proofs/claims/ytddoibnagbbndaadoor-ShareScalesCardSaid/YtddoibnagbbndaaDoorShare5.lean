/-
  slices.SortStableFunc of at most 39 places; falling.
-/
import Derived.Test.YtddoibnagbbndaaDoorShare4
import Derived.Lib.SliceRun
namespace Go.Proofs.YtddoibnagbbndaaDoor
open Go Go.RowKit
set_option linter.unusedVariables false

theorem symMerge_any23 (rs : List Int) (gr n g c : Nat) (w0 : World) (hC : Cmp23 rs w0 gr n) (hn : n ≤ 1000) : ∀ (N a m b : Nat) (f : Nat → Nat) (W : World), b - a ≤ N → a < m → m < b → b ≤ n → (∀ x, x < n → f x < n) → Crs23 f a m b → SoR (rsF rs) f a m → SoR (rsF rs) f m b → InR w0 g c n W f → SymAt23 rs w0 gr g c n f a m b W
  | 0, a, m, b, f, W, h1, h2, h3, h4, hf, hx, s1, s2, hA => by omega
  | N + 1, a, m, b, f, W, h1, h2, h3, h4, hf, hx, s1, s2, hA => by
    by_cases c1 : m = a + 1
    · subst c1
      exact symLeft_any23 rs gr a b n g c f w0 W hC h3 h4 hn hf (fun y p q => hx a y (Nat.le_refl _) (by omega) p q) s2 hA
    · by_cases c2 : b = m + 1
      · subst c2
        exact symRight_any23 rs gr a m n g c f w0 W hC (by omega) h4 hn hf (fun y p q => hx y m p q (Nat.le_refl _) (by omega)) s1 hA
      · exact symBoth_any23 rs gr a m b n g c f w0 W hC (by omega) (by omega) h4 hn hf hx s1 s2 hA fun a' m' b' f' W' q1 q2 q3 q4 q5 q6 q7 q8 q9 => symMerge_any23 rs gr n g c w0 hC hn N a' m' b' f' W' (by omega) q1 q2 q4 q5 q6 q7 q8 q9
theorem isort_none23 (fv : Value) (s : Value) (a b : Nat) (hab : b ≤ a) (ha : a ≤ 1000) (w : World) :
    Calls Tryd.prog 48 #[s, .int .i64 (a : Int), .int .i64 (b : Int), fv] w fun e w' => e = .returned (.tuple #[]) ∧ w = w' := by
  obtain ⟨a', ha'⟩ : ∃ a', a' = a + 1 := ⟨_, rfl⟩
  have hw1 : IntKind.i64.wrap ((a : Int) + 1) = (a' : Int) := by rw [IntKind.wrap_i64]; omega
  have hl : ¬ (a' : Int) < (b : Int) := by omega
  clear ha'
  go_enter Tryd.func48, Tryd.ntmps48
  go_wp2_with fail
  refine wp_loop_rounds 1 ?_
  rw [rounds_succ]
  go_wp2
  go_end0
  exact ⟨rfl, rfl⟩
abbrev StbAt23 (rs : List Int) (w0 : World) (gr g c n : Nat) (W : World) : Prop := Calls Tryd.prog 41 #[.slice (some ⟨g, 0, none⟩) n c, .int .i64 (n : Int), .func (.func 31) #[] #[.pointer (some ⟨gr, 0, none⟩)]] W (SoAt23 rs w0 g c n id 0 n)
set_option maxRecDepth 100000 in
set_option maxHeartbeats 6400000 in
theorem stable_less23 (rs : List Int) (gr n g c : Nat) (w0 w : World) (hC : Cmp23 rs w0 gr n) (h1 : 0 < n) (hn : n < 20) (h : InR w0 g c n w id) : StbAt23 rs w0 gr g c n w := by
  have hX := hidden (isort_any23 rs gr 0 n n g c id w0 w hC h1 (Nat.le_refl _) (by omega) (fun x q => q) (fun x y _ q _ => q) h)
  unfold StbAt23 SoAt23 at *
  have hnL : ¬ (20 : Int) ≤ (n : Int) := by omega
  have hnM : ¬ (20 : Int) < (n : Int) := by omega
  clear hC h
  go_enter Tryd.func41, Tryd.ntmps41
  go_wp2_with fail
  refine wp_loop_rounds 1 ?_
  rw [rounds_succ]
  go_wp2_with fail
  refine hX.out.mono ?_
  rintro e w1 ⟨rfl, f1, hA, hM, hS⟩
  replace hA := hidden hA
  replace hM := hidden hM
  replace hS := hidden hS
  clear hX
  go_wp2_with fail
  refine wp_loop_rounds 1 ?_
  rw [rounds_succ]
  go_wp2
  go_end0
  exact ⟨rfl, f1, hA.out, hM.out, hS.out⟩
set_option maxRecDepth 100000 in
set_option maxHeartbeats 6400000 in
theorem stable_even23 (rs : List Int) (gr g c : Nat) (w0 w : World) (hC : Cmp23 rs w0 gr 20) (h : InR w0 g c 20 w id) : StbAt23 rs w0 gr g c 20 w := by
  have hX := hidden (isort_any23 rs gr 0 20 20 g c id w0 w hC (by omega) (Nat.le_refl _) (by omega) (fun x q => q) (fun x y _ q _ => q) h)
  have hN := hidden (fun W => isort_none23 (.func (.func 31) #[] #[.pointer (some ⟨gr, 0, none⟩)]) (.slice (some ⟨g, 0, none⟩) 20 c) 20 20 (Nat.le_refl _) (by omega) W)
  unfold StbAt23 SoAt23 at *
  clear hC h
  go_enter Tryd.func41, Tryd.ntmps41
  go_wp2_with fail
  refine wp_loop_rounds 2 ?_
  rw [rounds_succ]
  go_wp2_with fail
  refine hX.out.mono ?_
  rintro e w1 ⟨rfl, f1, hA, hM, hS⟩
  replace hA := hidden hA
  replace hM := hidden hM
  replace hS := hidden hS
  clear hX
  go_wp2_with fail
  rw [rounds_succ]
  go_wp2_with fail
  refine (hN.out _).mono ?_
  rintro e w2 ⟨rfl, rfl⟩
  go_wp2_with fail
  refine wp_loop_rounds 1 ?_
  rw [rounds_succ]
  go_wp2
  go_end0
  exact ⟨rfl, f1, hA.out, hM.out, hS.out⟩
set_option maxRecDepth 100000 in
set_option maxHeartbeats 6400000 in
theorem stable_more23 (rs : List Int) (gr n g c : Nat) (w0 w : World) (hC : Cmp23 rs w0 gr n) (h1 : 20 < n) (hn : n < 40) (h : InR w0 g c n w id) : StbAt23 rs w0 gr g c n w := by
  have hX := hidden (isort_any23 rs gr 0 20 n g c id w0 w hC (by omega) (by omega) (by omega) (fun x q => q) (fun x y _ q _ => q) h)
  have hY := hidden (fun f1 W (hM : Mix23 id f1 0 20) (hA : InR w0 g c n W f1) => isort_any23 rs gr 20 n n g c f1 w0 W hC h1 (Nat.le_refl _) (by omega) (hM.lt (by omega) (fun x q => q)) (fun x y p q r => by rw [hM.2 x (by omega), hM.2 y (by omega)]; exact q) hA)
  have hZ := hidden (fun f1 f2 W (hM : Mix23 id f1 0 20) (hS : SoR (rsF rs) f1 0 20) (hM2 : Mix23 f1 f2 20 n) (hS2 : SoR (rsF rs) f2 20 n) (hA : InR w0 g c n W f2) => symMerge_any23 rs gr n g c w0 hC (by omega) n 0 20 n f2 W (by omega) (by omega) h1 (Nat.le_refl _) (hM2.lt (Nat.le_refl _) (hM.lt (by omega) (fun x q => q)))
    (fun x y p q r t => by
      rw [hM2.2 x (by omega)]
      obtain ⟨x', x1, x2, x3⟩ := hM.1 x p q
      obtain ⟨y', y1, y2, y3⟩ := hM2.1 y r t
      rw [x3, y3, hM.2 y' (by omega)]
      show x' < y'
      omega) (fun x y p q r => by rw [hM2.2 x (by omega), hM2.2 y (by omega)]; exact hS x y p q r) hS2 hA)
  have hend := hidden (fun f1 f2 f3 (hM : Mix23 id f1 0 20) (hM2 : Mix23 f1 f2 20 n) (hM3 : Mix23 f2 f3 0 n) => show Mix23 id f3 0 n from ((hM.more (Nat.le_refl _) (by omega)).trans (hM2.more (by omega) (Nat.le_refl _))).trans hM3)
  unfold SymAt23 at hZ
  unfold StbAt23 SoAt23 at *
  have hnL : (20 : Int) ≤ (n : Int) := by omega
  have hnM : (20 : Int) < (n : Int) := by omega
  have hnO : ¬ (40 : Int) ≤ (n : Int) := by omega
  have hnP : ¬ (40 : Int) < (n : Int) := by omega
  clear hC h
  go_enter Tryd.func41, Tryd.ntmps41
  go_wp2_with fail
  refine wp_loop_rounds 2 ?_
  rw [rounds_succ]
  go_wp2_with fail
  refine hX.out.mono ?_
  rintro e w1 ⟨rfl, f1, hA, hM, hS⟩
  have hY1 := hidden (hY.out f1 w1 hM hA)
  replace hM := hidden hM
  replace hS := hidden hS
  clear hX hY hA
  go_wp2_with fail
  rw [rounds_succ]
  go_wp2_with fail
  refine hY1.out.mono ?_
  rintro e w2 ⟨rfl, f2, hA, hM2, hS2⟩
  have hZ1 := hidden (hZ.out f1 f2 w2 hM.out hS.out hM2 hS2 hA)
  replace hM2 := hidden hM2
  clear hY1 hZ hA hS2
  go_wp2_with fail
  refine wp_loop_rounds 2 ?_
  rw [rounds_succ]
  go_wp2_with fail
  refine wp_loop_rounds 1 ?_
  rw [rounds_succ]
  go_wp2_with fail
  refine hZ1.out.mono ?_
  rintro e w3 ⟨rfl, f3, hA, hM3, hS3⟩
  have hfin := hidden (hend.out f1 f2 f3 hM.out hM2.out hM3)
  replace hA := hidden hA
  replace hS3 := hidden hS3
  clear hZ1 hM3
  go_wp2_with fail
  rw [rounds_succ]
  go_wp2
  go_end0
  exact ⟨rfl, f3, hA.out, hfin.out, hS3.out⟩
theorem stable_any23 (rs : List Int) (gr n g c : Nat) (w0 w : World) (hC : Cmp23 rs w0 gr n) (h1 : 0 < n) (hn : n < 40) (h : InR w0 g c n w id) : StbAt23 rs w0 gr g c n w := by
  rcases Nat.lt_trichotomy n 20 with q | q | q
  · exact stable_less23 rs gr n g c w0 w hC h1 q h
  · subst q; exact stable_even23 rs gr g c w0 w hC h
  · exact stable_more23 rs gr n g c w0 w hC q hn h
theorem sortStable_any23 (rs : List Int) (gr n g c : Nat) (w0 w : World) (hC : Cmp23 rs w0 gr n) (h1 : 0 < n) (hn : n < 40) (h : InR w0 g c n w id) :
    Calls Tryd.prog 30 #[.slice (some ⟨g, 0, none⟩) n c, .func (.func 31) #[] #[.pointer (some ⟨gr, 0, none⟩)]] w (SoAt23 rs w0 g c n id 0 n) := by
  have hX := hidden (stable_any23 rs gr n g c w0 w hC h1 hn h)
  unfold StbAt23 SoAt23 at *
  clear hC h
  go_enter Tryd.func30, Tryd.ntmps30
  go_wp2_with fail
  refine hX.out.mono ?_
  rintro e w1 ⟨rfl, f1, hA, hM, hS⟩
  replace hA := hidden hA
  replace hM := hidden hM
  replace hS := hidden hS
  clear hX
  go_wp2
  go_end0
  exact ⟨rfl, f1, hA.out, hM.out, hS.out⟩
end Go.Proofs.YtddoibnagbbndaaDoor
