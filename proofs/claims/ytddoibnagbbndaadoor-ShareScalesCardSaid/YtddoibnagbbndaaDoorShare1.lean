/-
  A row of places in memory; slices' swapRange and rotate.
-/
import Derived.Test.YtddoibnagbbndaaDoorShareSort
import Derived.Test.YtddoibnagbbndaaDoorSee
import Derived.Test.YtddoibnagbbndaaDoorBase
import Derived.BigQuiet
import Derived.BigRegion
import Derived.Deep.RegionHeld3
import Derived.Deep.DeepCutAuto
namespace Go.Proofs.YtddoibnagbbndaaDoor
open Go Go.RowKit
set_option linter.unusedVariables false

abbrev inT23 : TypeId := 3
/-- a row of places, made above the world w0, that holds f; all that lies in w0 is as it was. -/
structure InR (w0 : World) (g c n : Nat) (w : World) (f : Nat → Nat) : Prop where
  own : w.ownsRow w0.heap.size inT23 1 (.slice (some ⟨g, 0, none⟩) n c) n ((intF f n).map (Value.int .i64))
  low : Below w0.heap.size w0 w
section
variable {w0 : World} {g c n : Nat} {w w' : World} {f : Nat → Nat}
theorem InR.cell (h : InR w0 g c n w f) {i : Nat} (hi : i < n) : w.cell? ⟨g, i, none⟩ = some (.int .i64 (f i : Int)) := by
  have hl := intF_len f n
  rw [World.ownsRow.cellAt h.own i (by omega), List.getElem?_map, ← intF_at f hi, List.getD_eq_getElem?_getD, List.getElem?_eq_getElem (by omega)]
  rfl
theorem InR.frozen (h : InR w0 g c n w f) (i : Nat) : w.frozen? ⟨g, i, none⟩ = false := World.ownsRow.frozenAt h.own i
theorem InR.drew (h : InR w0 g c n w f) : InR w0 g c n w.drew f := ⟨h.own, h.low.drew⟩
theorem InR.drewN (h : InR w0 g c n w f) (m : Nat) : InR w0 g c n (w.drewN m) f := ⟨h.own, below_drewN h.low⟩
theorem InR.lt (h : InR w0 g c n w f) : g < w.heap.size := (World.ownsRow.lt h.own g rfl).2
theorem InR.above (h : InR w0 g c n w f) : w0.heap.size ≤ g := (World.ownsRow.lt h.own g rfl).1
theorem InR.same (h : InR w0 g c n w f) {f' : Nat → Nat} (e : ∀ x, x < n → f x = f' x) : InR w0 g c n w f' := ⟨by rw [← intF_same e]; exact h.own, h.low⟩
theorem set_row23 {l : List Int} {B : Nat} (hl : l.length = n) (h : w.ownsRow B inT23 1 (.slice (some ⟨g, 0, none⟩) n c) n (l.map (Value.int .i64))) (i : Nat) (x : Int) : (w.setCell ⟨g, i, none⟩ (.int .i64 x)).ownsRow B inT23 1 (.slice (some ⟨g, 0, none⟩) n c) n ((l.set i x).map (Value.int .i64)) := by
  obtain ⟨h1, h2⟩ := h
  refine ⟨by simp [hl], ?_⟩
  rcases h2 with ⟨h2, h3⟩ | ⟨g', cap, cur, hv, hb, hg, hn, hc, hs, ht⟩
  · cases h2
  · simp only [Value.slice.injEq, Option.some.injEq, Addr.mk.injEq, and_true, true_and] at hv
    obtain ⟨rfl, rfl⟩ := hv
    refine .inr ⟨g, c, cur.setIfInBounds i (.int .i64 x), rfl, hb, heap_setCell_row hg _, hn, hc, by rw [Array.size_setIfInBounds]; exact hs, ?_⟩
    rw [Array.toList_setIfInBounds, List.take_set, ht, List.map_set]
theorem InR.swap (h : InR w0 g c n w f) (i j : Nat) : InR w0 g c n ((w.setCell ⟨g, i, none⟩ (.int .i64 (f j : Int))).setCell ⟨g, j, none⟩ (.int .i64 (f i : Int))) (swp23 f i j) := by
  refine ⟨?_, (h.low.setCell (p := ⟨g, i, none⟩) h.above _).setCell (p := ⟨g, j, none⟩) h.above _⟩
  rw [← intF_swap]
  exact set_row23 (by rw [List.length_set]; exact intF_len f n) (set_row23 (intF_len f n) h.own i _) j _
end

/-- what a call leaves that turns the row. -/
def TurnAt23 (w0 : World) (g c n : Nat) (f' : Nat → Nat) (e : Ending) (w' : World) : Prop := e = .returned (.tuple #[]) ∧ InR w0 g c n w' f'
def SwRel23 (w0 : World) (g c n : Nat) (f : Nat → Nat) (a b m : Nat) (i : Value) (w : World) : Prop := ∃ k : Nat, k ≤ m ∧ i = .int .i64 (k : Int) ∧ InR w0 g c n w (swF f a b k)
set_option maxRecDepth 100000 in
set_option maxHeartbeats 6400000 in
theorem swapRange_any23 (fv : Value) (a b m n g c : Nat) (f : Nat → Nat) (w0 w : World) (h1 : a + m ≤ b) (h2 : b + m ≤ n) (hn : n ≤ 1000) (h : InR w0 g c n w f) :
    Calls Tryd.prog 54 #[.slice (some ⟨g, 0, none⟩) n c, .int .i64 (a : Int), .int .i64 (b : Int), .int .i64 (m : Int), fv] w (TurnAt23 w0 g c n (swF f a b m)) := by
  have hst : InR w0 g c n w (swF f a b 0) := by rw [sw_zero]; exact h
  replace hst := hidden hst
  unfold TurnAt23
  clear h
  have hmI : (m : Int) ≤ 1000 := by omega
  go_enter Tryd.func54, Tryd.ntmps54
  go_wp2_with fail
  go_loopw [10] (fun i wr => SwRel23 w0 g c n f a b m i wr) (fun i _ => m - (RowKit.intOf i).toNat)
  case atStart => exact ⟨0, Nat.zero_le _, rfl, hst.out⟩
  case round =>
    clear hst
    obtain ⟨k, hk, rfl, hA⟩ := hrel
    by_cases hlt : k < m
    · have hlI : (k : Int) < (m : Int) := by omega
      obtain ⟨p, hp⟩ : ∃ p, p = a + k := ⟨_, rfl⟩
      obtain ⟨q, hq⟩ : ∃ q, q = b + k := ⟨_, rfl⟩
      have hwp : IntKind.i64.wrap ((a : Int) + (k : Int)) = (p : Int) := by rw [IntKind.wrap_i64]; omega
      have hwq : IntKind.i64.wrap ((b : Int) + (k : Int)) = (q : Int) := by rw [IntKind.wrap_i64]; omega
      have hpI : (p : Int) < (n : Int) := by omega
      have hqI : (q : Int) < (n : Int) := by omega
      have hp0 : (0 : Int) ≤ (p : Int) := by omega
      have hq0 : (0 : Int) ≤ (q : Int) := by omega
      have cp := hA.cell (i := p) (by omega)
      have cq := hA.cell (i := q) (by omega)
      have fp := hA.frozen p
      have fq := hA.frozen q
      have hne : ¬ p = q := by omega
      have hA2 := hidden (hA.swap p q)
      have hsw := hidden (show swp23 (swF f a b k) p q = swF f a b (k + 1) from by rw [hp, hq]; exact sw_step f (by omega))
      clear hA hp hq
      generalize (swF f a b k p : Int) = x at *
      generalize (swF f a b k q : Int) = y at *
      go_wp2_with fail
      go_region
      all_goals
        go_wp2
        go_roundw
        case rel => exact ⟨k + 1, hlt, by go_num, by rw [← hsw.out]; exact hA2.out.drew⟩
        case measure => simp [RowKit.intOf]; omega
    · obtain rfl : k = m := by omega
      replace hA := hidden hA
      go_wp2
      go_end0
      exact ⟨rfl, hA.out⟩
/-- what is still to be turned, of two parts, is what was to be turned. -/
def RoRel23 (w0 : World) (g c n : Nat) (f : Nat → Nat) (a m b : Nat) (vi vj : Value) (w : World) : Prop := ∃ (i j : Nat) (h : Nat → Nat), 1 ≤ i ∧ 1 ≤ j ∧ i ≤ m ∧ m + j ≤ n ∧ vi = .int .i64 (i : Int) ∧ vj = .int .i64 (j : Int) ∧ InR w0 g c n w h ∧ roF h (m - i) m (m + j) = roF f a m b
set_option maxRecDepth 100000 in
set_option maxHeartbeats 6400000 in
theorem rotate_any23 (fv : Value) (a m b n g c : Nat) (f : Nat → Nat) (w0 w : World) (h1 : a < m) (h2 : m < b) (hb : b ≤ n) (hn : n ≤ 1000) (h : InR w0 g c n w f) :
    Calls Tryd.prog 53 #[.slice (some ⟨g, 0, none⟩) n c, .int .i64 (a : Int), .int .i64 (m : Int), .int .i64 (b : Int), fv] w (TurnAt23 w0 g c n (roF f a m b)) := by
  have hS := hidden (fun (a' b' m' : Nat) (f' : Nat → Nat) W q1 q2 (hW : InR w0 g c n W f') => swapRange_any23 fv a' b' m' n g c f' w0 W q1 q2 hn hW)
  obtain ⟨i, hi⟩ : ∃ i, i = m - a := ⟨_, rfl⟩
  obtain ⟨j, hj⟩ : ∃ j, j = b - m := ⟨_, rfl⟩
  have hwi : IntKind.i64.wrap ((m : Int) - (a : Int)) = (i : Int) := by rw [IntKind.wrap_i64]; omega
  have hwj : IntKind.i64.wrap ((b : Int) - (m : Int)) = (j : Int) := by rw [IntKind.wrap_i64]; omega
  have hst : RoRel23 w0 g c n f a m b (.int .i64 (i : Int)) (.int .i64 (j : Int)) w := ⟨i, j, f, by omega, by omega, by omega, by omega, rfl, rfl, h, by
    rw [show m - i = a from by omega, show m + j = b from by omega]⟩
  replace hst := hidden hst
  unfold TurnAt23 at hS ⊢
  clear h hi hj
  go_enter Tryd.func53, Tryd.ntmps53
  go_wp2_with fail
  go_loopw [10, 11] (fun vi vj wr => RoRel23 w0 g c n f a m b vi vj wr) (fun vi vj _ => (RowKit.intOf vi).toNat + (RowKit.intOf vj).toNat)
  case atStart => exact hst.out
  case round =>
    clear hst hwi hwj
    obtain ⟨i, j, f', hi, hj, hi2, hj2, rfl, rfl, hA, hro⟩ := hrel
    replace hro := hidden hro
    obtain ⟨s, hs⟩ : ∃ s, s = m - i := ⟨_, rfl⟩
    have hws : IntKind.i64.wrap ((m : Int) - (i : Int)) = (s : Int) := by rw [IntKind.wrap_i64]; omega
    rcases Nat.lt_trichotomy j i with hc | hc | hc
    · have hd1 : ((i : Int) != (j : Int)) = true := by simp; omega
      have hlI : (j : Int) < (i : Int) := by omega
      obtain ⟨i', hi'⟩ : ∃ i', i' = i - j := ⟨_, rfl⟩
      have hwi : IntKind.i64.wrap ((i : Int) - (j : Int)) = (i' : Int) := by rw [IntKind.wrap_i64]; omega
      have hC := hidden (hS.out s m j f' _ (by omega) (by omega) hA)
      have hro2 := hidden (show roF (swF f' s m j) (m - i') m (m + j) = roF f a m b from by rw [hs, hi', ro_more f' hi2 hc]; exact hro.out)
      have hbd := hidden (show 1 ≤ i' ∧ i' ≤ m ∧ i' + j < i + j from by omega)
      clear hA hS hs hi' hro
      go_wp2_with (go_at_call 54; (with_reducible refine hC.out.mono ?_); rintro e w' ⟨rfl, hA2⟩)
      replace hA2 := hidden hA2
      try go_wp2
      go_roundw
      case rel => exact ⟨i', j, _, hbd.out.1, hj, hbd.out.2.1, hj2, rfl, rfl, hA2.out, hro2.out⟩
      case measure =>
        have := hbd.out.2.2
        simp [RowKit.intOf]; omega
    · subst hc
      have hd1 : ((j : Int) != (j : Int)) = false := by simp
      have hC := hidden (hS.out s m j f' _ (by omega) (by omega) hA)
      have hro2 := hidden (show swF f' s m j = roF f a m b from by rw [hs, ← ro_even f' hi2]; exact hro.out)
      clear hA hS hs hro
      go_wp2_with (go_at_call 54; (with_reducible refine hC.out.mono ?_); rintro e w' ⟨rfl, hA2⟩)
      rw [hro2.out] at hA2
      replace hA2 := hidden hA2
      try go_wp2
      go_end0
      exact ⟨rfl, hA2.out⟩
    · have hd1 : ((i : Int) != (j : Int)) = true := by simp; omega
      have hlI : ¬ (j : Int) < (i : Int) := by omega
      obtain ⟨j', hj'⟩ : ∃ j', j' = j - i := ⟨_, rfl⟩
      obtain ⟨t, ht⟩ : ∃ t, t = m + j := ⟨_, rfl⟩
      obtain ⟨u, hu⟩ : ∃ u, u = m + j - i := ⟨_, rfl⟩
      have hwj : IntKind.i64.wrap ((j : Int) - (i : Int)) = (j' : Int) := by rw [IntKind.wrap_i64]; omega
      have hwt : IntKind.i64.wrap ((m : Int) + (j : Int)) = (t : Int) := by rw [IntKind.wrap_i64]; omega
      have hwu : IntKind.i64.wrap ((t : Int) - (i : Int)) = (u : Int) := by rw [IntKind.wrap_i64]; omega
      have hC := hidden (hS.out s u i f' _ (by omega) (by omega) hA)
      have hro2 := hidden (show roF (swF f' s u i) (m - i) m (m + j') = roF f a m b from by rw [hs, hu, hj', ro_less f' hi2 hc]; exact hro.out)
      have hbd := hidden (show 1 ≤ j' ∧ m + j' ≤ n ∧ i + j' < i + j from by omega)
      clear hA hS hs hj' ht hu hro
      go_wp2_with (go_at_call 54; (with_reducible refine hC.out.mono ?_); rintro e w' ⟨rfl, hA2⟩)
      replace hA2 := hidden hA2
      try go_wp2
      go_roundw
      case rel => exact ⟨i, j', _, hi, hbd.out.1, hi2, hbd.out.2.1, rfl, rfl, hA2.out, hro2.out⟩
      case measure =>
        have := hbd.out.2.2
        simp [RowKit.intOf]; omega
end Go.Proofs.YtddoibnagbbndaaDoor
