/-
  ShareParts.
-/
import Derived.Test.YtddoibnagbbndaaDoorShareLaw
import Derived.Test.YtddoibnagbbndaaDoorLaidOn
import Derived.BigQuiet
namespace Go.Proofs.YtddoibnagbbndaaDoor
open Go Go.RowKit
set_option linter.unusedVariables false

theorem fl_both {z x y : Int} (hz : am23 z) (hx : 0 ≤ x) (hy : 0 < y) (hs : x + y ≤ 1000000000000000) : 0 ≤ z * x / (x + y) ∧ 0 ≤ z * y / (x + y) ∧ (z * x / (x + y) + z * y / (x + y) = z ∨ z * x / (x + y) + z * y / (x + y) = z - 1) := by
  obtain ⟨a1, a2, a3, a4, a5⟩ := fl_fits hz.1 hx (show x ≤ x + y by omega) (show 0 < x + y by omega)
  obtain ⟨b1, b2, b3, b4, b5⟩ := fl_fits hz.1 (Int.le_of_lt hy) (show y ≤ x + y by omega) (show 0 < x + y by omega)
  refine ⟨a1, b1, ?_⟩
  have e : (z * x / (x + y) + z * y / (x + y) - z) * (x + y) + (z * x % (x + y) + z * y % (x + y)) = 0 := by
    rw [Int.sub_mul, Int.add_mul, Int.mul_add z]
    omega
  have hS : 0 < x + y := by omega
  generalize hd : z * x / (x + y) + z * y / (x + y) - z = d at *
  generalize z * x % (x + y) = r1 at *
  generalize z * y % (x + y) = r2 at *
  have h1 : d ≤ 0 := by
    rcases Int.lt_or_le 0 d with q | q
    · have : 0 < d * (x + y) := Int.mul_pos q hS
      omega
    · exact q
  have h2 : -1 ≤ d := by
    rcases Int.lt_or_le d (-1) with q | q
    · have : d * (x + y) ≤ (-2) * (x + y) := Int.mul_le_mul_of_nonneg_right (by omega) (Int.le_of_lt hS)
      omega
    · exact q
  omega
theorem drewB23 {B : Nat} {w0 w w' : World} (h : Below B w0 w) (hk : ∃ k, w' = w.drewN k) : Below B w0 w' := by
  obtain ⟨k, rfl⟩ := hk
  exact below_drewN h
theorem fl_codes {z x S : Int} (h : am23 z ∧ am23 x ∧ am23 S ∧ x ≤ S ∧ S ≠ 0) : floC z x S = 0 ∧ floV z x S = z * x / S := ⟨if_pos h, if_pos h⟩
theorem fl_wrong {z x S : Int} (h : ¬ (am23 z ∧ am23 x ∧ am23 S ∧ x ≤ S ∧ S ≠ 0)) : floC z x S = 103 ∧ floV z x S = 0 := ⟨if_neg h, if_neg h⟩
theorem sh_empty {z : Int} (h : am23 z) : shC z [] = if z = 0 then 0 else 106 := by
  unfold shC
  rw [if_neg (by decide), if_neg (by simp [h, allW]), if_neg (by decide)]
  by_cases q : z = 0
  · rw [if_neg (by simp [q]), if_pos q]
  · rw [if_pos ⟨rfl, q⟩, if_neg q]
set_option maxRecDepth 100000 in
set_option maxHeartbeats 6400000 in
theorem walk_shareParts (W a b : Int) (A : Nat → Addr) (w : World) (hW : -9223372036854775808 ≤ W) (hW2 : W ≤ 9223372036854775807) (ha : -9223372036854775808 ≤ a) (ha2 : a ≤ 9223372036854775807) (hb : -9223372036854775808 ≤ b) (hb2 : b ≤ 9223372036854775807) (hS : Sents w A) :
    Calls Tryd.prog 6 #[.int .i64 W, .int .i64 a, .int .i64 b] w fun e w' => e = .returned (.bool true) ∧ Below w.heap.size w w' := by
  have hE := hidden (fun W' (h : Below w.heap.size w W') => (hS.below h (Nat.le_refl _)).on [2, 3, 4, 5] (by decide))
  have hF := hidden (law23_first A w (hS.on [2, 3, 4, 5] (by decide)))
  have hS' := hidden (fun W' (h : Below w.heap.size w W') => hS.below h (Nat.le_refl _))
  have hN1 := hidden (fun W' => number_any a 1000000 W' ha ha2 (by omega) (by omega))
  have hN2 := hidden (fun W' => number_any b 1000000 W' hb hb2 (by omega) (by omega))
  obtain ⟨z0, hz0, hz1, hz2⟩ : ∃ z0 : Int, 0 ≤ z0 ∧ z0 ≤ 9223372036854775807 ∧ ((W < 0 ∧ IntKind.i64.wrap (W + 1) = W + 1 ∧ IntKind.i64.wrap (-(W + 1)) = z0 ∧ decide (W < 0) = true) ∨ (¬ W < 0 ∧ W = z0 ∧ decide (W < 0) = false)) := by
    by_cases q : W < 0
    · exact ⟨-(W + 1), by omega, by omega, .inl ⟨q, by rw [IntKind.wrap_i64]; omega, by rw [IntKind.wrap_i64]; omega, decide_eq_true q⟩⟩
    · exact ⟨W, by omega, by omega, .inr ⟨q, rfl, decide_eq_false q⟩⟩
  obtain ⟨z, hz⟩ : ∃ z : Int, z = z0 % 1000000000000001 := ⟨_, rfl⟩
  have hzt : Int.tmod z0 1000000000000001 = z := by rw [Int.tmod_eq_emod_of_nonneg hz0, hz]
  have hzb : am23 z := by unfold am23; omega
  obtain ⟨x, hx⟩ : ∃ x : Int, x = a % 1000000 := ⟨_, rfl⟩
  obtain ⟨y0, hy0⟩ : ∃ y0 : Int, y0 = b % 1000000 := ⟨_, rfl⟩
  obtain ⟨y, hy⟩ : ∃ y : Int, y = y0 + 1 := ⟨_, rfl⟩
  obtain ⟨s, hs⟩ : ∃ s : Int, s = x + y := ⟨_, rfl⟩
  obtain ⟨y2, hy2⟩ : ∃ y2 : Int, y2 = y + 1 := ⟨_, rfl⟩
  have hwy : IntKind.i64.wrap (y0 + 1) = y := by rw [IntKind.wrap_i64]; omega
  have hws : IntKind.i64.wrap (x + y) = s := by rw [IntKind.wrap_i64]; omega
  have hwy2 : IntKind.i64.wrap (y + 1) = y2 := by rw [IntKind.wrap_i64]; omega
  have hab : am23 x ∧ am23 y ∧ am23 s ∧ am23 y2 ∧ 0 < y ∧ x ≤ s ∧ y ≤ s ∧ s ≠ 0 := by unfold am23; omega
  obtain ⟨q1, q2, q3, q4, q5, q6, q7, q8⟩ := hab
  have hboth := fl_both hzb q1.1 q5 (by rw [← hs]; exact q3.2)
  rw [← hs] at hboth
  have f1 := fl_codes ⟨hzb, q1, q3, q6, q8⟩
  have f2 := fl_codes ⟨hzb, q2, q3, q7, q8⟩
  have f3 := fl_codes ⟨hzb, q2, q2, Int.le_refl y, (show y ≠ 0 by omega)⟩
  have f4 := fl_codes ⟨hzb, (show am23 0 by decide), q2, q2.1, (show y ≠ 0 by omega)⟩
  have f5 := fl_wrong (z := z) (x := y2) (S := y) (fun h => by omega)
  have f6 := fl_wrong (z := z) (x := 0) (S := 0) (fun h => by omega)
  rw [Int.mul_ediv_cancel _ (show y ≠ 0 by omega)] at f3
  rw [Int.mul_zero, Int.zero_ediv] at f4
  have hfl := fun x S W' (h : Below w.heap.size w W') => floor_any23 A z x S W' ((hE.out W' h).sub (ks := [2]) (by simp))
  have g1 := hidden (hfl x s)
  have g2 := hidden (hfl y s)
  have g3 := hidden (hfl y y)
  have g4 := hidden (hfl 0 y)
  have g5 := hidden (hfl y2 y)
  have g6 := hidden (hfl 0 0)
  rw [f1.1, f1.2, errOf_fine] at g1
  rw [f2.1, f2.2, errOf_fine] at g2
  rw [f3.1, f3.2, errOf_fine] at g3
  rw [f4.1, f4.2, errOf_fine] at g4
  rw [f5.1, f5.2] at g5
  rw [f6.1, f6.2] at g6
  have g7 := hidden (fun W' (h : Below w.heap.size w W') => split_any23 A z (.slice none 0 0) [] W' (Reads.nil _ _) (hE.out W' h))
  unfold SpAt23 at g7
  have hI := hidden (fun W' (h : Below w.heap.size w W') => is_self A 103 W' (hS'.out W' h) (.inr ⟨by decide, by decide⟩))
  rw [← hx] at hN1
  rw [← hy0] at hN2
  have hse := sh_empty hzb
  have hzb2 := hzb.2
  have hzb0 := hzb.1
  clear hfl f1 f2 f3 f4 f5 f6 hS q1 q2 q3 q4 q5 q6 q7 q8 hs hx hy hy2 hy0 hE hS' hzb
  obtain ⟨p0, p1, hpq⟩ := hboth
  generalize z * x / s = p at *
  generalize z * y / s = q at *
  obtain ⟨zz, hzz, hzz2⟩ : ∃ zz : Bool, zz = decide (z = 0) ∧ (z == 0) = zz := ⟨_, rfl, by rw [Bool.eq_iff_iff]; simp⟩
  replace hzz := hidden hzz
  obtain ⟨pq, hpq1⟩ : ∃ pq : Int, pq = p + q := ⟨_, rfl⟩
  have hwpq : IntKind.i64.wrap (p + q) = pq := by rw [IntKind.wrap_i64]; omega
  have hwz : IntKind.i64.wrap (z - 1) = z - 1 := by rw [IntKind.wrap_i64]; omega
  have hways : ((pq == z) = true) ∨ ((pq == z) = false ∧ (pq == z - 1) = true) := by
    rcases hpq with e | e
    · exact .inl (by simp; omega)
    · exact .inr ⟨by simp; omega, by simp; omega⟩
  clear hpq hpq1 p0 p1 hzb2
  have hev : (zz = true ∧ errOf A (shC z []) = .nilIface) ∨ (zz = false ∧ ∃ ad, errOf A (shC z []) = errAt ad) := by
    rw [hse, hzz.out]
    by_cases e : z = 0
    · exact .inl ⟨decide_eq_true e, by rw [if_pos e]; rfl⟩
    · exact .inr ⟨decide_eq_false e, by rw [if_neg e]; exact ⟨_, rfl⟩⟩
  clear hse hzz
  have hB := hidden (Below.refl w.heap.size w)
  have hzt2 : ∀ V : Int, V = z0 → -((-V).tmod 1000000000000001) = z ∧ V % 1000000000000001 = z := fun V e => by
    subst e
    exact ⟨by rw [Int.neg_tmod, Int.neg_neg]; exact hzt, hz.symm⟩
  have hz3 : (W < 0 ∧ IntKind.i64.wrap (W + 1) = W + 1 ∧ -((W + 1).tmod 1000000000000001) = z ∧ decide (W < 0) = true ∧ IntKind.i64.wrap (-(W + 1)) = -(W + 1)) ∨ (¬ W < 0 ∧ W.tmod 1000000000000001 = z ∧ decide (W < 0) = false ∧ W % 1000000000000001 = z ∧ True) := by
    rcases hz2 with ⟨r1, r2, r3, r4⟩ | ⟨r1, r3, r4⟩
    · have e : IntKind.i64.wrap (-(W + 1)) = -(W + 1) := by rw [IntKind.wrap_i64]; omega
      have e2 := (hzt2 (-(W + 1)) (by rw [← e]; exact r3)).1
      rw [Int.neg_neg] at e2
      exact .inl ⟨r1, r2, e2, r4, e⟩
    · exact .inr ⟨r1, by rw [r3]; exact hzt, r4, by rw [r3]; exact hz.symm, trivial⟩
  clear hz2 hzt hzt2 hz
  rcases hz3 with ⟨r1, r2, r3, r4, r5⟩ | ⟨r1, r2, r3, r4, r5⟩
  all_goals
    rcases hways with u1 | ⟨u1, u2⟩
    all_goals
      rcases hev with ⟨rfl, ev⟩ | ⟨rfl, ad, ev⟩
      all_goals
        rw [ev] at g7
        clear ev
        go_enter Tryd.func6, Tryd.ntmps6
        go_wp2_with (first
          | (go_at_call 7; refine hF.out.mono ?_; rintro e w' ⟨rfl, hbw⟩; replace hB := hidden hbw; clear hbw)
          | (go_at_call 15; (with_reducible refine (hN1.out _).mono ?_); rintro e w' ⟨rfl, rfl⟩)
          | (go_at_call 15; (with_reducible refine (hN2.out _).mono ?_); rintro e w' ⟨rfl, rfl⟩)
          | (go_at_call 10; (with_reducible refine (g1.out _ hB.out).mono ?_); rintro e w' ⟨rfl, hbw⟩; replace hB := hidden (drewB23 hB.out hbw); clear hbw)
          | (go_at_call 10; (with_reducible refine (g2.out _ hB.out).mono ?_); rintro e w' ⟨rfl, hbw⟩; replace hB := hidden (drewB23 hB.out hbw); clear hbw)
          | (go_at_call 10; (with_reducible refine (g3.out _ hB.out).mono ?_); rintro e w' ⟨rfl, hbw⟩; replace hB := hidden (drewB23 hB.out hbw); clear hbw)
          | (go_at_call 10; (with_reducible refine (g4.out _ hB.out).mono ?_); rintro e w' ⟨rfl, hbw⟩; replace hB := hidden (drewB23 hB.out hbw); clear hbw)
          | (go_at_call 10; (with_reducible refine (g5.out _ hB.out).mono ?_); rintro e w' ⟨rfl, hbw⟩; replace hB := hidden (drewB23 hB.out hbw); clear hbw)
          | (go_at_call 10; (with_reducible refine (g6.out _ hB.out).mono ?_); rintro e w' ⟨rfl, hbw⟩; replace hB := hidden (drewB23 hB.out hbw); clear hbw)
          | (go_at_call 8; (with_reducible refine (g7.out _ hB.out).mono ?_); rintro e w' ⟨sv, rfl, _, hbw⟩; replace hB := hidden (hB.out.trans (hbw.mono hB.out.size)); clear hbw)
          | (go_at_call 13; (with_reducible refine (hI.out _ hB.out).mono ?_); rintro e w' ⟨rfl, hbw⟩; replace hB := hidden (hB.out.trans (hbw.mono hB.out.size)); clear hbw))
        go_ret
        exact ⟨rfl, hB.out⟩
end Go.Proofs.YtddoibnagbbndaaDoor
