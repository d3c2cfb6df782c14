/-
  A row of places in memory; slices' swapRange and rotate.
  falling's comparison; slices' insertion sort.
  slices' symMerge, where the left run is one number, or the right one.
-/
import Derived.Test.YtlanggdmdpjfbaaDoorShareMath
import Derived.Test.YtlanggdmdpjfbaaDoorSee
import Derived.Test.YtlanggdmdpjfbaaDoorBase
import Derived.BigQuiet
import Derived.BigRegion
import Derived.Deep.RegionHeld3
import Derived.Deep.DeepCutAuto
import Derived.Test.YtlanggdmdpjfbaaDoorFix
namespace Go.Proofs.YtlanggdmdpjfbaaDoor
open Go Go.RowKit
set_option linter.unusedVariables false

abbrev inT23 : TypeId := 3
/-- a row of places, made above the world w0, that holds f; all that lies in w0 is as it was. -/
structure InR (w0 : World) (g c n : Nat) (w : World) (f : Nat → Nat) : Prop where
  own : w.ownsRow w0.heap.size inT23 1 (.slice (some ⟨g, 0, none⟩) n c) n ((intF f n).map (Value.int .i64))
  low : Below w0.heap.size w0 w
section
variable {w0 : World} {g c n : Nat} {w w' : World} {f : Nat → Nat}
theorem InR.cell (h : InR w0 g c n w f) {i : Nat} (hi : i < n) : w.cell? ⟨g, i, none⟩ = some (.int .i64 (f i : Int)) := by
  have hl := intF_len f n
  rw [World.ownsRow.cellAt h.own i (by omega), List.getElem?_map, ← intF_at f hi, List.getD_eq_getElem?_getD, List.getElem?_eq_getElem (by omega)]
  rfl
theorem InR.frozen (h : InR w0 g c n w f) (i : Nat) : w.frozen? ⟨g, i, none⟩ = false := World.ownsRow.frozenAt h.own i
theorem InR.drew (h : InR w0 g c n w f) : InR w0 g c n w.drew f := ⟨h.own, h.low.drew⟩
theorem InR.drewN (h : InR w0 g c n w f) (m : Nat) : InR w0 g c n (w.drewN m) f := ⟨h.own, below_drewN h.low⟩
theorem InR.lt (h : InR w0 g c n w f) : g < w.heap.size := (World.ownsRow.lt h.own g rfl).2
theorem InR.above (h : InR w0 g c n w f) : w0.heap.size ≤ g := (World.ownsRow.lt h.own g rfl).1
theorem InR.same (h : InR w0 g c n w f) {f' : Nat → Nat} (e : ∀ x, x < n → f x = f' x) : InR w0 g c n w f' := ⟨by rw [← intF_same e]; exact h.own, h.low⟩
theorem set_row23 {l : List Int} {B : Nat} (hl : l.length = n) (h : w.ownsRow B inT23 1 (.slice (some ⟨g, 0, none⟩) n c) n (l.map (Value.int .i64))) (i : Nat) (x : Int) : (w.setCell ⟨g, i, none⟩ (.int .i64 x)).ownsRow B inT23 1 (.slice (some ⟨g, 0, none⟩) n c) n ((l.set i x).map (Value.int .i64)) := by
  obtain ⟨h1, h2⟩ := h
  refine ⟨by simp [hl], ?_⟩
  rcases h2 with ⟨h2, h3⟩ | ⟨g', cap, cur, hv, hb, hg, hn, hc, hs, ht⟩
  · cases h2
  · simp only [Value.slice.injEq, Option.some.injEq, Addr.mk.injEq, and_true, true_and] at hv
    obtain ⟨rfl, rfl⟩ := hv
    refine .inr ⟨g, c, cur.setIfInBounds i (.int .i64 x), rfl, hb, heap_setCell_row hg _, hn, hc, by rw [Array.size_setIfInBounds]; exact hs, ?_⟩
    rw [Array.toList_setIfInBounds, List.take_set, ht, List.map_set]
theorem InR.swap (h : InR w0 g c n w f) (i j : Nat) : InR w0 g c n ((w.setCell ⟨g, i, none⟩ (.int .i64 (f j : Int))).setCell ⟨g, j, none⟩ (.int .i64 (f i : Int))) (swp23 f i j) := by
  refine ⟨?_, (h.low.setCell (p := ⟨g, i, none⟩) h.above _).setCell (p := ⟨g, j, none⟩) h.above _⟩
  rw [← intF_swap]
  exact set_row23 (by rw [List.length_set]; exact intF_len f n) (set_row23 (intF_len f n) h.own i _) j _
end

/-- what a call leaves that turns the row. -/
def TurnAt23 (w0 : World) (g c n : Nat) (f' : Nat → Nat) (e : Ending) (w' : World) : Prop := e = .returned (.tuple #[]) ∧ InR w0 g c n w' f'
def SwRel23 (w0 : World) (g c n : Nat) (f : Nat → Nat) (a b m : Nat) (i : Value) (w : World) : Prop := ∃ k : Nat, k ≤ m ∧ i = .int .i64 (k : Int) ∧ InR w0 g c n w (swF f a b k)
set_option maxRecDepth 100000 in
set_option maxHeartbeats 6400000 in
theorem swapRange_any23 (fv : Value) (a b m n g c : Nat) (f : Nat → Nat) (w0 w : World) (h1 : a + m ≤ b) (h2 : b + m ≤ n) (hn : n ≤ 1000) (h : InR w0 g c n w f) :
    Calls Tryd.prog 81 #[.slice (some ⟨g, 0, none⟩) n c, .int .i64 (a : Int), .int .i64 (b : Int), .int .i64 (m : Int), fv] w (TurnAt23 w0 g c n (swF f a b m)) := by
  have hst : InR w0 g c n w (swF f a b 0) := by rw [sw_zero]; exact h
  replace hst := hidden hst
  unfold TurnAt23
  clear h
  have hmI : (m : Int) ≤ 1000 := by omega
  go_enter Tryd.func81, Tryd.ntmps81
  go_wp2_with fail
  go_loopw [10] (fun i wr => SwRel23 w0 g c n f a b m i wr) (fun i _ => m - (RowKit.intOf i).toNat)
  case atStart => exact ⟨0, Nat.zero_le _, rfl, hst.out⟩
  case round =>
    clear hst
    obtain ⟨k, hk, rfl, hA⟩ := hrel
    by_cases hlt : k < m
    · have hlI : (k : Int) < (m : Int) := by omega
      obtain ⟨p, hp⟩ : ∃ p, p = a + k := ⟨_, rfl⟩
      obtain ⟨q, hq⟩ : ∃ q, q = b + k := ⟨_, rfl⟩
      have hwp : IntKind.i64.wrap ((a : Int) + (k : Int)) = (p : Int) := by rw [IntKind.wrap_i64]; omega
      have hwq : IntKind.i64.wrap ((b : Int) + (k : Int)) = (q : Int) := by rw [IntKind.wrap_i64]; omega
      have hpI : (p : Int) < (n : Int) := by omega
      have hqI : (q : Int) < (n : Int) := by omega
      have hp0 : (0 : Int) ≤ (p : Int) := by omega
      have hq0 : (0 : Int) ≤ (q : Int) := by omega
      have cp := hA.cell (i := p) (by omega)
      have cq := hA.cell (i := q) (by omega)
      have fp := hA.frozen p
      have fq := hA.frozen q
      have hne : ¬ p = q := by omega
      have hA2 := hidden (hA.swap p q)
      have hsw := hidden (show swp23 (swF f a b k) p q = swF f a b (k + 1) from by rw [hp, hq]; exact sw_step f (by omega))
      clear hA hp hq
      generalize (swF f a b k p : Int) = x at *
      generalize (swF f a b k q : Int) = y at *
      go_wp2_with fail
      go_region
      all_goals
        go_wp2
        go_roundw
        case rel => exact ⟨k + 1, hlt, by go_num, by rw [← hsw.out]; exact hA2.out.drew⟩
        case measure => simp [RowKit.intOf]; omega
    · obtain rfl : k = m := by omega
      replace hA := hidden hA
      go_wp2
      go_end0
      exact ⟨rfl, hA.out⟩
/-- what is still to be turned, of two parts, is what was to be turned. -/
def RoRel23 (w0 : World) (g c n : Nat) (f : Nat → Nat) (a m b : Nat) (vi vj : Value) (w : World) : Prop := ∃ (i j : Nat) (h : Nat → Nat), 1 ≤ i ∧ 1 ≤ j ∧ i ≤ m ∧ m + j ≤ n ∧ vi = .int .i64 (i : Int) ∧ vj = .int .i64 (j : Int) ∧ InR w0 g c n w h ∧ roF h (m - i) m (m + j) = roF f a m b
set_option maxRecDepth 100000 in
set_option maxHeartbeats 6400000 in
theorem rotate_any23 (fv : Value) (a m b n g c : Nat) (f : Nat → Nat) (w0 w : World) (h1 : a < m) (h2 : m < b) (hb : b ≤ n) (hn : n ≤ 1000) (h : InR w0 g c n w f) :
    Calls Tryd.prog 80 #[.slice (some ⟨g, 0, none⟩) n c, .int .i64 (a : Int), .int .i64 (m : Int), .int .i64 (b : Int), fv] w (TurnAt23 w0 g c n (roF f a m b)) := by
  have hS := hidden (fun (a' b' m' : Nat) (f' : Nat → Nat) W q1 q2 (hW : InR w0 g c n W f') => swapRange_any23 fv a' b' m' n g c f' w0 W q1 q2 hn hW)
  obtain ⟨i, hi⟩ : ∃ i, i = m - a := ⟨_, rfl⟩
  obtain ⟨j, hj⟩ : ∃ j, j = b - m := ⟨_, rfl⟩
  have hwi : IntKind.i64.wrap ((m : Int) - (a : Int)) = (i : Int) := by rw [IntKind.wrap_i64]; omega
  have hwj : IntKind.i64.wrap ((b : Int) - (m : Int)) = (j : Int) := by rw [IntKind.wrap_i64]; omega
  have hst : RoRel23 w0 g c n f a m b (.int .i64 (i : Int)) (.int .i64 (j : Int)) w := ⟨i, j, f, by omega, by omega, by omega, by omega, rfl, rfl, h, by
    rw [show m - i = a from by omega, show m + j = b from by omega]⟩
  replace hst := hidden hst
  unfold TurnAt23 at hS ⊢
  clear h hi hj
  go_enter Tryd.func80, Tryd.ntmps80
  go_wp2_with fail
  go_loopw [10, 11] (fun vi vj wr => RoRel23 w0 g c n f a m b vi vj wr) (fun vi vj _ => (RowKit.intOf vi).toNat + (RowKit.intOf vj).toNat)
  case atStart => exact hst.out
  case round =>
    clear hst hwi hwj
    obtain ⟨i, j, f', hi, hj, hi2, hj2, rfl, rfl, hA, hro⟩ := hrel
    replace hro := hidden hro
    obtain ⟨s, hs⟩ : ∃ s, s = m - i := ⟨_, rfl⟩
    have hws : IntKind.i64.wrap ((m : Int) - (i : Int)) = (s : Int) := by rw [IntKind.wrap_i64]; omega
    rcases Nat.lt_trichotomy j i with hc | hc | hc
    · have hd1 : ((i : Int) != (j : Int)) = true := by simp; omega
      have hlI : (j : Int) < (i : Int) := by omega
      obtain ⟨i', hi'⟩ : ∃ i', i' = i - j := ⟨_, rfl⟩
      have hwi : IntKind.i64.wrap ((i : Int) - (j : Int)) = (i' : Int) := by rw [IntKind.wrap_i64]; omega
      have hC := hidden (hS.out s m j f' _ (by omega) (by omega) hA)
      have hro2 := hidden (show roF (swF f' s m j) (m - i') m (m + j) = roF f a m b from by rw [hs, hi', ro_more f' hi2 hc]; exact hro.out)
      have hbd := hidden (show 1 ≤ i' ∧ i' ≤ m ∧ i' + j < i + j from by omega)
      clear hA hS hs hi' hro
      go_wp2_with (go_at_call 81; (with_reducible refine hC.out.mono ?_); rintro e w' ⟨rfl, hA2⟩)
      replace hA2 := hidden hA2
      try go_wp2
      go_roundw
      case rel => exact ⟨i', j, _, hbd.out.1, hj, hbd.out.2.1, hj2, rfl, rfl, hA2.out, hro2.out⟩
      case measure =>
        have := hbd.out.2.2
        simp [RowKit.intOf]; omega
    · subst hc
      have hd1 : ((j : Int) != (j : Int)) = false := by simp
      have hC := hidden (hS.out s m j f' _ (by omega) (by omega) hA)
      have hro2 := hidden (show swF f' s m j = roF f a m b from by rw [hs, ← ro_even f' hi2]; exact hro.out)
      clear hA hS hs hro
      go_wp2_with (go_at_call 81; (with_reducible refine hC.out.mono ?_); rintro e w' ⟨rfl, hA2⟩)
      rw [hro2.out] at hA2
      replace hA2 := hidden hA2
      try go_wp2
      go_end0
      exact ⟨rfl, hA2.out⟩
    · have hd1 : ((i : Int) != (j : Int)) = true := by simp; omega
      have hlI : ¬ (j : Int) < (i : Int) := by omega
      obtain ⟨j', hj'⟩ : ∃ j', j' = j - i := ⟨_, rfl⟩
      obtain ⟨t, ht⟩ : ∃ t, t = m + j := ⟨_, rfl⟩
      obtain ⟨u, hu⟩ : ∃ u, u = m + j - i := ⟨_, rfl⟩
      have hwj : IntKind.i64.wrap ((j : Int) - (i : Int)) = (j' : Int) := by rw [IntKind.wrap_i64]; omega
      have hwt : IntKind.i64.wrap ((m : Int) + (j : Int)) = (t : Int) := by rw [IntKind.wrap_i64]; omega
      have hwu : IntKind.i64.wrap ((t : Int) - (i : Int)) = (u : Int) := by rw [IntKind.wrap_i64]; omega
      have hC := hidden (hS.out s u i f' _ (by omega) (by omega) hA)
      have hro2 := hidden (show roF (swF f' s u i) (m - i) m (m + j') = roF f a m b from by rw [hs, hu, hj', ro_less f' hi2 hc]; exact hro.out)
      have hbd := hidden (show 1 ≤ j' ∧ m + j' ≤ n ∧ i + j' < i + j from by omega)
      clear hA hS hs hj' ht hu hro
      go_wp2_with (go_at_call 81; (with_reducible refine hC.out.mono ?_); rintro e w' ⟨rfl, hA2⟩)
      replace hA2 := hidden hA2
      try go_wp2
      go_roundw
      case rel => exact ⟨i, j', _, hi, hbd.out.1, hi2, hbd.out.2.1, rfl, rfl, hA2.out, hro2.out⟩
      case measure =>
        have := hbd.out.2.2
        simp [RowKit.intOf]; omega
end Go.Proofs.YtlanggdmdpjfbaaDoor
namespace Go.Proofs.YtlanggdmdpjfbaaDoor
open Go Go.RowKit
set_option linter.unusedVariables false

theorem cmpv_neg23 {x y : Int} : cmpv x y < 0 ↔ x < y := by
  unfold cmpv
  by_cases h : x < y
  · rw [if_pos h]; simp [h]
  · rw [if_neg h]
    by_cases h2 : y < x
    · rw [if_pos h2]; omega
    · rw [if_neg h2]; omega
/-- the rests, in a variable that a closure holds. -/
def RsIn (w : World) (gr : Nat) (rs : List Int) : Prop := ∃ v, w.cell? ⟨gr, 0, none⟩ = some v ∧ Reads .i64 w v rs
theorem RsIn.below {w w' : World} {gr : Nat} {rs : List Int} (h : RsIn w gr rs) (hb : Below w.heap.size w w') : RsIn w' gr rs := by
  obtain ⟨v, h1, h2⟩ := h
  exact ⟨v, by rw [World.cell?_of_block (w := w) (hb.block gr (World.block_lt_of_cell? w _ h1))]; exact h1, h2.below hb (Nat.le_refl _)⟩
def rsF (rs : List Int) (i : Nat) : Int := rs.getD i 0
set_option maxRecDepth 100000 in
set_option maxHeartbeats 3200000 in
theorem ahead_any23 (gr i j : Nat) (rs : List Int) (w : World) (h : RsIn w gr rs) (hi : i < rs.length) (hj : j < rs.length) :
    Calls Tryd.prog 60 #[.int .i64 (i : Int), .int .i64 (j : Int), .pointer (some ⟨gr, 0, none⟩)] w fun e w' => e = .returned (.int .i64 (cmpv (rsF rs j) (rsF rs i))) ∧ ∃ k, w' = w.drewN k := by
  obtain ⟨v, h1, h2⟩ := h
  obtain ⟨b, o, c, rfl⟩ := reads_some h2 (by omega)
  obtain ⟨b1, o1, e1, ci⟩ := h2.cell i hi
  obtain ⟨b2, o2, e2, cj⟩ := h2.cell j hj
  simp only [Option.some.injEq, Addr.mk.injEq, and_true] at e1 e2
  obtain ⟨rfl, rfl⟩ := e1
  obtain ⟨rfl, rfl⟩ := e2
  have hiI : (i : Int) < (rs.length : Int) := by omega
  have hjI : (j : Int) < (rs.length : Int) := by omega
  unfold rsF
  have hI : ∀ W, Calls Tryd.prog 61 #[.int .i64 (rs.getD j 0), .int .i64 (rs.getD i 0)] W fun e w' => e = .returned (.int .i64 (cmpv (rs.getD j 0) (rs.getD i 0))) ∧ w' = W := fun W => (cmpI_any _ _ W).mono fun _ _ q => ⟨q.1, q.2.symm⟩
  replace hI := hidden hI
  generalize hr : cmpv (rs.getD j 0) (rs.getD i 0) = r at *
  replace hr := hidden hr
  generalize rs.getD i 0 = x at *
  generalize rs.getD j 0 = y at *
  generalize rs.length = len at *
  clear h2 hi hj
  go_enter Tryd.func60, Tryd.ntmps60
  go_wp2_with fail
  go_quiet ((go_at_call 61; exact Calls.quiet_of_same (hI.out _)))
  go_wp2
  go_ret
  exact ⟨rfl, _, rfl⟩

/-- what a call leaves that puts the row in order from a to b. -/
def SoAt23 (rs : List Int) (w0 : World) (g c n : Nat) (f : Nat → Nat) (a b : Nat) (e : Ending) (w' : World) : Prop := e = .returned (.tuple #[]) ∧ ∃ f', InR w0 g c n w' f' ∧ Mix23 f f' a b ∧ SoR (rsF rs) f' a b
def IsRel1_23 (rs : List Int) (w0 : World) (g c n : Nat) (f : Nat → Nat) (a b : Nat) (i : Value) (w : World) : Prop := ∃ (k : Nat) (f' : Nat → Nat), a + 1 ≤ k ∧ k ≤ b ∧ i = .int .i64 (k : Int) ∧ InR w0 g c n w f' ∧ Mix23 f f' a k ∧ SoR (rsF rs) f' a k
def IsRel2_23 (rs : List Int) (w0 : World) (g c n : Nat) (f : Nat → Nat) (a k : Nat) (i : Value) (w : World) : Prop := ∃ (j : Nat) (h : Nat → Nat), a ≤ j ∧ j ≤ k ∧ i = .int .i64 (j : Int) ∧ InR w0 g c n w h ∧ InsI (rsF rs) f h a k j
/-- the comparison, in each world in which all that lay in w0 lies as it was. -/
abbrev Cmp23 (rs : List Int) (w0 : World) (gr n : Nat) : Prop := ∀ (x y : Nat) (W : World), x < n → y < n → Below w0.heap.size w0 W → Calls Tryd.prog 60 #[.int .i64 (x : Int), .int .i64 (y : Int), .pointer (some ⟨gr, 0, none⟩)] W fun e w' => e = .returned (.int .i64 (cmpv (rsF rs y) (rsF rs x))) ∧ ∃ k, w' = W.drewN k
theorem cmp_in23 {rs : List Int} {w0 : World} {gr n : Nat} (h : RsIn w0 gr rs) (hn : rs.length = n) : Cmp23 rs w0 gr n := fun x y W hx hy hW => ahead_any23 gr x y rs W (h.below hW) (by omega) (by omega)
set_option maxRecDepth 100000 in
set_option maxHeartbeats 6400000 in
theorem isort_any23 (rs : List Int) (gr a b n g c : Nat) (f : Nat → Nat) (w0 w : World) (hC : Cmp23 rs w0 gr n) (hab : a < b) (hb : b ≤ n) (hn : n ≤ 1000) (hf : ∀ x, x < n → f x < n) (hup : ∀ x y, a ≤ x → x < y → y < b → f x < f y) (h : InR w0 g c n w f) :
    Calls Tryd.prog 77 #[.slice (some ⟨g, 0, none⟩) n c, .int .i64 (a : Int), .int .i64 (b : Int), .func (.func 60) #[] #[.pointer (some ⟨gr, 0, none⟩)]] w (SoAt23 rs w0 g c n f a b) := by
  have hst : IsRel1_23 rs w0 g c n f a b (.int .i64 ((a + 1 : Nat) : Int)) w := ⟨a + 1, f, Nat.le_refl _, hab, rfl, h, Mix23.refl _ _ _, SoR.none (by omega)⟩
  obtain ⟨a', ha'⟩ : ∃ a', a' = a + 1 := ⟨_, rfl⟩
  rw [← ha'] at hst
  have hw1 : IntKind.i64.wrap ((a : Int) + 1) = (a' : Int) := by rw [IntKind.wrap_i64]; omega
  replace hst := hidden hst
  replace hC := hidden hC
  replace hf := hidden hf
  replace hup := hidden hup
  unfold SoAt23
  clear h ha'
  have hbI : (b : Int) ≤ 1000 := by omega
  go_enter Tryd.func77, Tryd.ntmps77
  go_wp2_with fail
  go_loopw [8] (fun i wr => IsRel1_23 rs w0 g c n f a b i wr) (fun i _ => b - (RowKit.intOf i).toNat)
  case atStart => exact hst.out
  case round =>
    clear hst hw1
    obtain ⟨k, f', hk1, hk, rfl, hA, hmix, hso⟩ := hrel
    by_cases hlt : k < b
    · have hlI : (k : Int) < (b : Int) := by omega
      have hin := hidden (show InsI (rsF rs) f f' a k k from ins_first hmix hso (fun x q1 q2 => hup.out x k q1 q2 hlt))
      replace hA := hidden hA
      clear hmix hso
      go_wp2_with fail
      go_loopw [9] (fun i wr => IsRel2_23 rs w0 g c n f a k i wr) (fun i _ => (RowKit.intOf i).toNat)
      case atStart => exact ⟨k, f', by omega, Nat.le_refl _, rfl, hA.out, hin.out⟩
      case round =>
        clear hA hin
        obtain ⟨j, h, hj1, hj2, rfl, hA, hin⟩ := hrel
        replace hin := hidden hin
        by_cases hja : a < j
        · obtain ⟨p, rfl⟩ : ∃ p, j = p + 1 := ⟨j - 1, by omega⟩
          have hd : decide ((a : Int) < ((p + 1 : Nat) : Int)) = true := decide_eq_true (by omega)
          have hd2 : decide ((a : Int) < (p : Int) + 1) = true := decide_eq_true (by omega)
          have hwp2 : IntKind.i64.wrap ((p : Int) + 1 - 1) = (p : Int) := by rw [IntKind.wrap_i64]; omega
          have hwp3 : IntKind.i64.wrap (p : Int) = (p : Int) := by rw [IntKind.wrap_i64]; omega
          have hxn : h (p + 1) < n := hin.out.mix.lt (by omega) hf.out _ (by omega)
          have hyn : h p < n := hin.out.mix.lt (by omega) hf.out _ (by omega)
          have hval : h p < h (p + 1) := by rw [hin.out.val]; exact hin.out.oth p (by omega) (by omega) (by omega)
          have hCW := hidden (fun m => hC.out (h (p + 1)) (h p) (wr.drewN m) hxn hyn (below_drewN hA.low))
          have hCW0 := hidden (hC.out (h (p + 1)) (h p) wr hxn hyn hA.low)
          have cj := hA.cell (i := p + 1) (by omega)
          have cp := hA.cell (i := p) (by omega)
          have hwp : IntKind.i64.wrap (((p + 1 : Nat) : Int) - 1) = (p : Int) := by rw [IntKind.wrap_i64]; omega
          have hpI : (p : Int) < (n : Int) := by omega
          have hpI2 : (p : Int) + 1 < (n : Int) := by omega
          have hp0 : (0 : Int) ≤ (p : Int) + 1 := by omega
          have hlt2 := hidden (show LtR (rsF rs) (h (p + 1)) (h p) ↔ cmpv (rsF rs (h p)) (rsF rs (h (p + 1))) < 0 from by
            rw [cmpv_neg23]; unfold LtR; omega)
          have fj := hA.frozen (p + 1)
          have fp := hA.frozen p
          have hA2 := hidden (fun m => (hA.drewN m).swap (p + 1) p)
          replace hA := hidden hA
          clear hval hxn hyn
          generalize cmpv (rsF rs (h p)) (rsF rs (h (p + 1))) = r at *
          generalize (h (p + 1) : Int) = x at *
          generalize (h p : Int) = y at *
          go_wp2_with fail
          go_quiet ((go_at_call 60; exact Calls.quiet_of (hCW.out _)))
          by_cases hr : r < 0
          · have hin2 := hidden (hin.out.step (by omega) (by omega) (hlt2.out.2 hr))
            go_wp2_with fail
            go_region
            all_goals
              go_wp2
              go_roundw
              case rel => exact ⟨p, _, by omega, by omega, rfl, hA2.out _, hin2.out⟩
              case measure => simp [RowKit.intOf]
          · have hin2 := hidden (hin.out.stop (by omega) hj2 (fun _ => by
              rw [Nat.add_sub_cancel]; exact fun q => hr (hlt2.out.1 q)))
            go_wp2
            go_roundw
            case rel => exact ⟨k + 1, h, by omega, hlt, by go_num, hA.out.drewN _, hin2.out.1, hin2.out.2⟩
            case measure => simp [RowKit.intOf]; omega
        · obtain rfl : j = a := by omega
          have hd : decide ((j : Int) < (j : Int)) = false := decide_eq_false (by omega)
          have hin2 := hidden (hin.out.stop (by omega) hj2 (fun q => by omega))
          replace hA := hidden hA
          go_wp2_with fail
          go_quiet (fail)
          go_wp2
          go_roundw
          case rel => exact ⟨k + 1, h, by omega, hlt, by go_num, hA.out.drewN _, hin2.out.1, hin2.out.2⟩
          case measure => simp [RowKit.intOf]; omega
    · obtain rfl : k = b := by omega
      replace hA := hidden hA
      replace hmix := hidden hmix
      replace hso := hidden hso
      go_wp2
      go_end0
      exact ⟨rfl, _, hA.out, hmix.out, hso.out⟩
end Go.Proofs.YtlanggdmdpjfbaaDoor
namespace Go.Proofs.YtlanggdmdpjfbaaDoor
open Go Go.RowKit
set_option linter.unusedVariables false

theorem lt_cmp23 {rs : List Int} {x y : Nat} (h : y < x) : LtR (rsF rs) x y ↔ cmpv (rsF rs y) (rsF rs x) < 0 := by
  rw [cmpv_neg23]; unfold LtR; omega
theorem mid23 {s p : Nat} (h : s ≤ 4000) (hp : p = s / 2) : IntKind.u64.wrap (s : Int) = (s : Int) ∧ (s : Int) / 2 = (p : Int) ∧ IntKind.i64.wrap (p : Int) = (p : Int) ∧ wrap64 (p : Int) = (p : Int) := by
  have e : IntKind.i64.wrap (p : Int) = (p : Int) := by rw [IntKind.wrap_i64]; omega
  refine ⟨by rw [IntKind.wrap_u64]; omega, by omega, e, ?_⟩
  unfold wrap64
  omega
def SlRel1 (rs : List Int) (w0 : World) (g c n : Nat) (f : Nat → Nat) (a b : Nat) (vi vj : Value) (w : World) : Prop := ∃ (i j : Nat), a + 1 ≤ i ∧ i ≤ j ∧ j ≤ b ∧ vi = .int .i64 (i : Int) ∧ vj = .int .i64 (j : Int) ∧ InR w0 g c n w f ∧ (a + 1 < i → LtR (rsF rs) (f (i - 1)) (f a)) ∧ (j < b → ¬ LtR (rsF rs) (f j) (f a))
def SlRel2 (w0 : World) (g c n : Nat) (f : Nat → Nat) (a e : Nat) (vk : Value) (w : World) : Prop := ∃ k : Nat, a ≤ k ∧ k + 1 ≤ e ∧ vk = .int .i64 (k : Int) ∧ InR w0 g c n w (roF f a (a + 1) (k + 1))
set_option maxRecDepth 100000 in
set_option maxHeartbeats 6400000 in
theorem symLeft_any23 (rs : List Int) (gr a b n g c : Nat) (f : Nat → Nat) (w0 w : World) (hC : Cmp23 rs w0 gr n) (hab : a + 1 < b) (hb : b ≤ n) (hn : n ≤ 1000) (hf : ∀ x, x < n → f x < n) (hx : ∀ y, a + 1 ≤ y → y < b → f a < f y) (so2 : SoR (rsF rs) f (a + 1) b) (h : InR w0 g c n w f) :
    Calls Tryd.prog 78 #[.slice (some ⟨g, 0, none⟩) n c, .int .i64 (a : Int), .int .i64 ((a + 1 : Nat) : Int), .int .i64 (b : Int), .func (.func 60) #[] #[.pointer (some ⟨gr, 0, none⟩)]] w (SoAt23 rs w0 g c n f a b) := by
  have hst : SlRel1 rs w0 g c n f a b (.int .i64 ((a + 1 : Nat) : Int)) (.int .i64 (b : Int)) w := ⟨a + 1, b, Nat.le_refl _, by omega, Nat.le_refl _, rfl, rfl, h, fun q => by omega, fun q => by omega⟩
  have hend := hidden (fun e (h3 : a + 1 ≤ e) (h4 : e ≤ b) lo hi => one_left' hx so2 h3 h4 lo hi)
  obtain ⟨m, hm⟩ : ∃ m, m = a + 1 := ⟨_, rfl⟩
  rw [← hm] at hst ⊢
  have hw1 : IntKind.i64.wrap ((m : Int) - (a : Int)) = 1 := by rw [IntKind.wrap_i64]; omega
  replace hst := hidden hst
  replace hC := hidden hC
  replace hf := hidden hf
  replace hm := hidden hm
  replace hx := hidden hx
  unfold SoAt23
  clear h so2
  have hbI : (b : Int) ≤ 1000 := by omega
  go_enter Tryd.func78, Tryd.ntmps78
  go_wp2_with fail
  go_loopw [10, 11] (fun vi vj wr => SlRel1 rs w0 g c n f a b vi vj wr) (fun vi vj _ => (RowKit.intOf vj).toNat - (RowKit.intOf vi).toNat)
  case atStart => exact hst.out
  case round =>
    clear hst
    obtain ⟨i, j, hi, hij, hj, rfl, rfl, hA, lo, hhi⟩ := hrel
    replace lo := hidden lo
    replace hhi := hidden hhi
    by_cases hlt : i < j
    · have hlI : (i : Int) < (j : Int) := by omega
      obtain ⟨s, hs⟩ : ∃ s, s = i + j := ⟨_, rfl⟩
      obtain ⟨p, hp⟩ : ∃ p, p = s / 2 := ⟨_, rfl⟩
      obtain ⟨q, hq⟩ : ∃ q, q = p + 1 := ⟨_, rfl⟩
      have hws : IntKind.i64.wrap ((i : Int) + (j : Int)) = (s : Int) := by rw [IntKind.wrap_i64]; omega
      have hmid0 := hidden (mid23 (s := s) (p := p) (by omega) hp)
      have hwq : IntKind.i64.wrap ((p : Int) + 1) = (q : Int) := by rw [IntKind.wrap_i64]; omega
      have hbd : i ≤ p ∧ p < j := by omega
      have hxp := hx.out p (by omega) (by omega)
      have hCW := hidden (fun m => hC.out (f p) (f a) (wr.drewN m) (hf.out _ (by omega)) (hf.out _ (by omega)) (below_drewN hA.low))
      have cp := hA.cell (i := p) (by omega)
      have ca := hA.cell (i := a) (by omega)
      have hpI : (p : Int) < (n : Int) := by omega
      have haI : (a : Int) < (n : Int) := by omega
      have hlt2 := hidden (lt_cmp23 (rs := rs) hxp)
      replace hA := hidden hA
      replace hs := hidden hs
      replace hp := hidden hp
      replace hq := hidden hq
      clear hxp
      generalize cmpv (rsF rs (f a)) (rsF rs (f p)) = r at *
      generalize (f p : Int) = x at *
      generalize (f a : Int) = y at *
      obtain ⟨hmid, hmid2, hmid3, hmid4⟩ := hmid0.out
      go_wp2_with fail
      clear hmid hmid2 hmid3 hmid4 hmid0
      go_quiet ((go_at_call 60; exact Calls.quiet_of (hCW.out _)))
      by_cases hr : r < 0
      · have hlo := hidden (hlt2.out.2 hr)
        go_wp2
        go_roundw
        case rel => exact ⟨q, j, by rw [hq.out]; omega, by rw [hq.out]; omega, hj, rfl, rfl, hA.out.drewN _, fun _ => by rw [hq.out]; exact hlo.out, hhi.out⟩
        case measure =>
          have := hq.out
          simp [RowKit.intOf]; omega
      · have hlo := hidden (fun q => hr (hlt2.out.1 q))
        go_wp2
        go_roundw
        case rel => exact ⟨i, p, hi, hbd.1, by omega, rfl, rfl, hA.out.drewN _, lo.out, fun _ => hlo.out⟩
        case measure => simp [RowKit.intOf]; omega
    · obtain rfl : i = j := by omega
      have hfin := hidden (hend.out i hi hj lo.out hhi.out)
      obtain ⟨e, he⟩ : ∃ e, e = i - 1 := ⟨_, rfl⟩
      have hwe : IntKind.i64.wrap ((i : Int) - 1) = (e : Int) := by rw [IntKind.wrap_i64]; omega
      have hst2 : SlRel2 w0 g c n f a i (.int .i64 (a : Int)) wr := ⟨a, Nat.le_refl _, hi, rfl, by rw [ro_none_r f a (a + 1) (by omega)]; exact hA⟩
      replace hst2 := hidden hst2
      clear hA lo hhi
      go_wp2_with fail
      go_loopw [13] (fun vk wr => SlRel2 w0 g c n f a i vk wr) (fun vk _ => i - (RowKit.intOf vk).toNat)
      case atStart => exact hst2.out
      case round =>
        clear hst2
        obtain ⟨k, hk1, hk2, rfl, hA⟩ := hrel
        by_cases hlk : k + 1 < i
        · have hkI : (k : Int) < (e : Int) := by omega
          obtain ⟨q, hq⟩ : ∃ q, q = k + 1 := ⟨_, rfl⟩
          have hwq : IntKind.i64.wrap ((k : Int) + 1) = (q : Int) := by rw [IntKind.wrap_i64]; omega
          have cp := hA.cell (i := k) (by omega)
          have cq := hA.cell (i := q) (by omega)
          have fp := hA.frozen k
          have fq := hA.frozen q
          have hne : ¬ k = q := by omega
          have hknI : (k : Int) < (n : Int) := by omega
          have hqnI : (q : Int) < (n : Int) := by omega
          have hA2 := hidden (hA.swap k q)
          have hsw := hidden (show swp23 (roF f a (a + 1) (k + 1)) k q = roF f a (a + 1) (q + 1) from by rw [hq]; exact ro_up f hk1)
          have hbd := hidden (show a ≤ q ∧ q + 1 ≤ i ∧ k < q from by omega)
          replace hq := hidden hq
          clear hA
          generalize (roF f a (a + 1) (k + 1) k : Int) = x at *
          generalize (roF f a (a + 1) (k + 1) q : Int) = y at *
          go_wp2_with fail
          go_region
          all_goals
            go_wp2
            go_roundw
            case rel => exact ⟨q, hbd.out.1, hbd.out.2.1, rfl, by rw [← hsw.out]; exact hA2.out.drew⟩
            case measure =>
              have := hbd.out
              simp [RowKit.intOf]; omega
        · obtain rfl : i = k + 1 := by omega
          have hkI : ¬ (k : Int) < (e : Int) := by omega
          replace hA := hidden hA
          go_wp2
          (try simp only [Exit.inBlock, Exit.then])
          refine bodyPost_ret (results_none rfl _ _ _) rfl ?_
          exact ⟨rfl, _, hA.out, hfin.out⟩

def SrRel1 (rs : List Int) (w0 : World) (g c n : Nat) (f : Nat → Nat) (a m : Nat) (vi vj : Value) (w : World) : Prop := ∃ (i j : Nat), a ≤ i ∧ i ≤ j ∧ j ≤ m ∧ vi = .int .i64 (i : Int) ∧ vj = .int .i64 (j : Int) ∧ InR w0 g c n w f ∧ (a < i → ¬ LtR (rsF rs) (f m) (f (i - 1))) ∧ (j < m → LtR (rsF rs) (f m) (f j))
def SrRel2 (w0 : World) (g c n : Nat) (f : Nat → Nat) (s m : Nat) (vk : Value) (w : World) : Prop := ∃ k : Nat, s ≤ k ∧ k ≤ m ∧ vk = .int .i64 (k : Int) ∧ InR w0 g c n w (roF f k m (m + 1))
set_option maxRecDepth 100000 in
set_option maxHeartbeats 6400000 in
theorem symRight_any23 (rs : List Int) (gr a m n g c : Nat) (f : Nat → Nat) (w0 w : World) (hC : Cmp23 rs w0 gr n) (ham : a + 1 < m) (hb : m + 1 ≤ n) (hn : n ≤ 1000) (hf : ∀ x, x < n → f x < n) (hx : ∀ y, a ≤ y → y < m → f y < f m) (so1 : SoR (rsF rs) f a m) (h : InR w0 g c n w f) :
    Calls Tryd.prog 78 #[.slice (some ⟨g, 0, none⟩) n c, .int .i64 (a : Int), .int .i64 (m : Int), .int .i64 ((m + 1 : Nat) : Int), .func (.func 60) #[] #[.pointer (some ⟨gr, 0, none⟩)]] w (SoAt23 rs w0 g c n f a (m + 1)) := by
  have hst : SrRel1 rs w0 g c n f a m (.int .i64 (a : Int)) (.int .i64 (m : Int)) w := ⟨a, m, Nat.le_refl _, by omega, Nat.le_refl _, rfl, rfl, h, fun q => by omega, fun q => by omega⟩
  have hend := hidden (fun s (h1 : a ≤ s) (h2 : s ≤ m) lo hi => one_right' hx so1 h1 h2 lo hi)
  obtain ⟨b, hbm⟩ : ∃ b, b = m + 1 := ⟨_, rfl⟩
  rw [← hbm]
  have hw1 : IntKind.i64.wrap ((b : Int) - (m : Int)) = 1 := by rw [IntKind.wrap_i64]; omega
  obtain ⟨d, hd⟩ : ∃ d, d = m - a := ⟨_, rfl⟩
  have hw2 : IntKind.i64.wrap ((m : Int) - (a : Int)) = (d : Int) := by rw [IntKind.wrap_i64]; omega
  have hd1 : ((d : Int) == 1) = false := by simp; omega
  have hd2 : ¬ (d : Int) = 1 := by omega
  replace hst := hidden hst
  replace hC := hidden hC
  replace hf := hidden hf
  replace hx := hidden hx
  replace hbm := hidden hbm
  unfold SoAt23
  clear h so1 hd
  have hbI : (m : Int) ≤ 1000 := by omega
  have hmnI : (m : Int) < (n : Int) := by omega
  go_enter Tryd.func78, Tryd.ntmps78
  go_wp2_with fail
  go_loopw [14, 15] (fun vi vj wr => SrRel1 rs w0 g c n f a m vi vj wr) (fun vi vj _ => (RowKit.intOf vj).toNat - (RowKit.intOf vi).toNat)
  case atStart => exact hst.out
  case round =>
    clear hst
    obtain ⟨i, j, hi, hij, hj, rfl, rfl, hA, lo, hhi⟩ := hrel
    replace lo := hidden lo
    replace hhi := hidden hhi
    by_cases hlt : i < j
    · have hlI : (i : Int) < (j : Int) := by omega
      obtain ⟨s, hs⟩ : ∃ s, s = i + j := ⟨_, rfl⟩
      obtain ⟨p, hp⟩ : ∃ p, p = s / 2 := ⟨_, rfl⟩
      obtain ⟨q, hq⟩ : ∃ q, q = p + 1 := ⟨_, rfl⟩
      have hws : IntKind.i64.wrap ((i : Int) + (j : Int)) = (s : Int) := by rw [IntKind.wrap_i64]; omega
      have hmid0 := hidden (mid23 (s := s) (p := p) (by omega) hp)
      have hwq : IntKind.i64.wrap ((p : Int) + 1) = (q : Int) := by rw [IntKind.wrap_i64]; omega
      have hbd : i ≤ p ∧ p < j := by omega
      have hxp := hx.out p (by omega) (by omega)
      have hCW := hidden (fun k => hC.out (f m) (f p) (wr.drewN k) (hf.out _ (by omega)) (hf.out _ (by omega)) (below_drewN hA.low))
      have cp := hA.cell (i := p) (by omega)
      have cm := hA.cell (i := m) (by omega)
      have hpI : (p : Int) < (n : Int) := by omega
      have hlt2 := hidden (lt_cmp23 (rs := rs) hxp)
      replace hA := hidden hA
      replace hs := hidden hs
      replace hp := hidden hp
      replace hq := hidden hq
      clear hxp
      generalize cmpv (rsF rs (f p)) (rsF rs (f m)) = r at *
      generalize (f p : Int) = x at *
      generalize (f m : Int) = y at *
      by_cases hr : r < 0
      · have hlo := hidden (hlt2.out.2 hr)
        have hb1 : decide (r < 0) = true := decide_eq_true hr
        have hb2 : decide (0 ≤ r) = false := decide_eq_false (by omega)
        obtain ⟨hmid, hmid2, hmid3, hmid4⟩ := hmid0.out
        go_wp2_with fail
        clear hmid hmid2 hmid3 hmid4 hmid0
        go_quiet ((go_at_call 60; exact Calls.quiet_of (hCW.out _)))
        go_wp2
        go_roundw
        case rel => exact ⟨i, p, hi, hbd.1, by omega, rfl, rfl, hA.out.drewN _, lo.out, fun _ => hlo.out⟩
        case measure => simp [RowKit.intOf]; omega
      · have hlo := hidden (fun q => hr (hlt2.out.1 q))
        have hb1 : decide (r < 0) = false := decide_eq_false hr
        have hb2 : decide (0 ≤ r) = true := decide_eq_true (by omega)
        obtain ⟨hmid, hmid2, hmid3, hmid4⟩ := hmid0.out
        go_wp2_with fail
        clear hmid hmid2 hmid3 hmid4 hmid0
        go_quiet ((go_at_call 60; exact Calls.quiet_of (hCW.out _)))
        go_wp2
        go_roundw
        case rel => exact ⟨q, j, by rw [hq.out]; omega, by rw [hq.out]; omega, hj, rfl, rfl, hA.out.drewN _, fun _ => by rw [hq.out]; exact hlo.out, hhi.out⟩
        case measure =>
          have := hq.out
          simp [RowKit.intOf]; omega
    · obtain rfl : i = j := by omega
      have hfin := hidden (hend.out i hi hj lo.out hhi.out)
      rw [← hbm.out] at hfin
      have hst2 : SrRel2 w0 g c n f i m (.int .i64 (m : Int)) wr := ⟨m, hj, Nat.le_refl _, rfl, by rw [ro_none_l]; exact hA⟩
      replace hst2 := hidden hst2
      clear hA lo hhi
      go_wp2_with fail
      go_loopw [17] (fun vk wr => SrRel2 w0 g c n f i m vk wr) (fun vk _ => (RowKit.intOf vk).toNat)
      case atStart => exact hst2.out
      case round =>
        clear hst2
        obtain ⟨k, hk1, hk2, rfl, hA⟩ := hrel
        by_cases hlk : i < k
        · have hkI : (i : Int) < (k : Int) := by omega
          obtain ⟨q, hq⟩ : ∃ q, q = k - 1 := ⟨_, rfl⟩
          have hwq : IntKind.i64.wrap ((k : Int) - 1) = (q : Int) := by rw [IntKind.wrap_i64]; omega
          have cp := hA.cell (i := k) (by omega)
          have cq := hA.cell (i := q) (by omega)
          have fp := hA.frozen k
          have fq := hA.frozen q
          have hne : ¬ k = q := by omega
          have hknI : (k : Int) < (n : Int) := by omega
          have hqnI : (q : Int) < (n : Int) := by omega
          have hA2 := hidden (hA.swap k q)
          have hsw := hidden (show swp23 (roF f k m (m + 1)) k q = roF f q m (m + 1) from by
            obtain rfl : k = q + 1 := by omega
            exact ro_down f (by omega))
          have hbd := hidden (show i ≤ q ∧ q ≤ m ∧ q < k from by omega)
          replace hq := hidden hq
          clear hA
          generalize (roF f k m (m + 1) k : Int) = x at *
          generalize (roF f k m (m + 1) q : Int) = y at *
          go_wp2_with fail
          go_region
          all_goals
            go_wp2
            go_roundw
            case rel => exact ⟨q, hbd.out.1, hbd.out.2.1, rfl, by rw [← hsw.out]; exact hA2.out.drew⟩
            case measure =>
              have := hbd.out
              simp [RowKit.intOf]; omega
        · obtain rfl : i = k := by omega
          rw [← hbm.out] at hA
          replace hA := hidden hA
          go_wp2
          (try simp only [Exit.inBlock, Exit.then])
          refine bodyPost_ret (results_none rfl _ _ _) rfl ?_
          exact ⟨rfl, _, hA.out, hfin.out⟩
end Go.Proofs.YtlanggdmdpjfbaaDoor
