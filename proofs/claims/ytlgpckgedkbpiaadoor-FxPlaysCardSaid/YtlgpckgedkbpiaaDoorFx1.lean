/-
  fx: a block of rates, the code's or the document's; isForeign, isRate, Set, Get of both.
-/
import Derived.Test.YtlgpckgedkbpiaaDoorFxMath
import Derived.Test.YtlgpckgedkbpiaaDoorErr
import Derived.Test.YtlgpckgedkbpiaaDoorMem
import Derived.Test.YtlgpckgedkbpiaaDoorIn10
namespace Go.Proofs.YtlgpckgedkbpiaaDoor
open Go.RowKit
set_option linter.unusedVariables false

def raCs (f : Nat → Int) : Array Value := ((List.range 7).map fun i => Value.int .i64 (f i)).toArray
theorem raCs_at (f : Nat → Int) (i : Nat) (h : i < 7) : (raCs f)[i]? = some (.int .i64 (f i)) := by simp [raCs, h]
theorem raCs_size (f : Nat → Int) : (raCs f).size = 7 := by simp [raCs]
/-- block g is the rates f, as a value of type t. -/
structure RaAt (w : World) (g : Nat) (t : TypeId) (f : Nat → Int) : Prop where
  row : w.heap[g]? = some (.cells (raCs f) t (0, 0))
  ok : RaT f
section
variable {w w' : World} {g : Nat} {t : TypeId} {f : Nat → Int}
theorem raAt_new (w : World) (t : TypeId) : RaAt (w.alloc (.cells #[.int .i64 0, .int .i64 0, .int .i64 0, .int .i64 0, .int .i64 0, .int .i64 0, .int .i64 0] t)) w.heap.size t ra0 := ⟨heap_alloc_new w _, ra0_ok⟩
theorem RaAt.lt (h : RaAt w g t f) : g < w.heap.size := (Array.getElem?_eq_some_iff.1 h.row).1
theorem RaAt.block (h : RaAt w g t f) (hb : w'.heap[g]? = w.heap[g]?) : RaAt w' g t f := ⟨hb.trans h.row, h.ok⟩
theorem RaAt.below (h : RaAt w g t f) (hb : Below w.heap.size w w') : RaAt w' g t f := h.block (hb.block _ h.lt)
theorem RaAt.trd {S : Nat → Prop} (h : RaAt w g t f) (ht : Trd S w w') (hg : ¬ S g) : RaAt w' g t f := h.block (ht.block _ h.lt hg)
theorem RaAt.cell (h : RaAt w g t f) (i : Nat) (hi : i < 7) : w.cell? ⟨g, i, none⟩ = some (.int .i64 (f i)) := by
  rw [cell_of_row _ _ _ _ _ _ h.row, raCs_at f i hi]
theorem RaAt.frozen (h : RaAt w g t f) (j : Nat) : w.frozen? ⟨g, j, none⟩ = false := by simp [World.frozen?, h.row]
theorem RaAt.put (h : RaAt w g t f) {k : Nat} {r : Int} (hr : raOk (k : Int) r) : RaAt (w.setCell ⟨g, k, none⟩ (.int .i64 r)) g t (raT f (k : Int) r) := by
  refine ⟨?_, h.ok.set _ _⟩
  rw [heap_setCell_row h.row]
  congr 2
  apply Array.ext_getElem?
  intro i
  have hk : k < 7 := by unfold raOk at hr; omega
  rw [Array.getElem?_setIfInBounds, raCs_size]
  by_cases hi : i < 7
  · rw [raCs_at _ i hi, raCs_at _ i hi]
    unfold raT
    rw [if_pos hr]
    by_cases e : k = i
    · subst e; rw [if_pos rfl, if_pos hk, if_pos rfl]
    · rw [if_neg e, if_neg (by omega)]
  · rw [if_neg (by omega)]
    simp [raCs, hi]
end

def forB (m : Int) : Bool := decide (2 ≤ m ∧ m ≤ 6)
def rateB (r : Int) : Bool := decide (1 ≤ r ∧ r ≤ 1000000000)
theorem forB_ways (m : Int) : (decide (1 < m) = false ∧ forB m = false) ∨ (decide (1 < m) = true ∧ decide (m ≤ 6) = false ∧ forB m = false) ∨ (decide (1 < m) = true ∧ decide (m ≤ 6) = true ∧ forB m = true) := by
  unfold forB
  simp only [decide_eq_true_iff, decide_eq_false_iff_not]
  omega
theorem rateB_ways (r : Int) : (decide (1 ≤ r) = false ∧ rateB r = false) ∨ (decide (1 ≤ r) = true ∧ decide (r ≤ 1000000000) = false ∧ rateB r = false) ∨ (decide (1 ≤ r) = true ∧ decide (r ≤ 1000000000) = true ∧ rateB r = true) := by
  unfold rateB
  simp only [decide_eq_true_iff, decide_eq_false_iff_not]
  omega
theorem isForeign_any (m : Int) (w : World) : Calls Tryd.prog 18 #[.int .i64 m] w fun e w' => e = .returned (.bool (forB m)) ∧ w = w' := by
  rcases forB_ways m with ⟨t1, q⟩ | ⟨t1, t2, q⟩ | ⟨t1, t2, q⟩
  all_goals
    replace q := hidden q
    go_enter Tryd.func18, Tryd.ntmps18
    go_wp2
    go_ret
    exact ⟨ret_bool q.out.symm, rfl⟩
theorem isRate_any (r : Int) (w : World) : Calls Tryd.prog 19 #[.int .i64 r] w fun e w' => e = .returned (.bool (rateB r)) ∧ w = w' := by
  rcases rateB_ways r with ⟨t1, q⟩ | ⟨t1, t2, q⟩ | ⟨t1, t2, q⟩
  all_goals
    replace q := hidden q
    go_enter Tryd.func19, Tryd.ntmps19
    go_wp2
    go_ret
    exact ⟨ret_bool q.out.symm, rfl⟩
theorem raOk_of (m r : Int) : (forB m = false ∧ ¬ raOk m r) ∨ (forB m = true ∧ rateB r = false ∧ ¬ raOk m r) ∨ (forB m = true ∧ rateB r = true ∧ raOk m r) := by
  unfold raOk forB rateB
  simp only [decide_eq_true_iff, decide_eq_false_iff_not]
  omega
abbrev raTy : TypeId := 26
abbrev raTyR : TypeId := 28
def RaSetAt (A : Nat → Addr) (g : Nat) (f : Nat → Int) (m r : Int) (w : World) (e : Ending) (w' : World) : Prop :=
  e = .returned (errOf A (raC m r)) ∧ RaAt w' g raTy (raT f m r) ∧ Trd (· = g) w w'
set_option maxHeartbeats 1600000 in
theorem raSet_any (A : Nat → Addr) (w : World) (g : Nat) (f : Nat → Int) (m r : Int) (h : RaAt w g raTy f) (hE : ErrsOn [2] w A) :
    Calls Tryd.prog 7 #[.pointer (some ⟨g, 0, none⟩), .int .i64 m, .int .i64 r] w (RaSetAt A g f m r w) := by
  unfold RaSetAt
  have hR : w.cell? ⟨0, 0, none⟩ = some (errAt (A 2)) := hE 2 (by simp)
  clear hE
  rcases raOk_of m r with ⟨t1, q⟩ | ⟨t1, t2, q⟩ | ⟨t1, t2, q⟩
  iterate 2
    · rw [show raC m r = 103 from if_neg q, show raT f m r = f from if_neg q]
      replace h := hidden h
      clear q
      go_enter Tryd.func7, Tryd.ntmps7
      go_wp2_with (first
        | (go_at_call 18; refine (isForeign_any _ _).mono ?_; rintro e w' ⟨rfl, rfl⟩)
        | (go_at_call 19; refine (isRate_any _ _).mono ?_; rintro e w' ⟨rfl, rfl⟩))
      go_ret
      exact ⟨rfl, h.out, Trd.refl _ _⟩
  · obtain ⟨k, rfl⟩ : ∃ k : Nat, m = (k : Int) := ⟨m.toNat, by unfold raOk at q; omega⟩
    rw [show raC (k : Int) r = 0 from if_pos q]
    have hk : k < 7 := by unfold raOk at q; omega
    have hkI : (k : Int) < 7 := by omega
    have c1 := h.cell k hk
    have f1 := h.frozen k
    have hp := hidden (h.put q)
    have ht := hidden (Trd.setCell (S := (· = g)) w ⟨g, k, none⟩ (.int .i64 r) rfl)
    clear h q
    go_enter Tryd.func7, Tryd.ntmps7
    go_wp2_with (first
      | (go_at_call 18; refine (isForeign_any _ _).mono ?_; rintro e w' ⟨rfl, rfl⟩)
      | (go_at_call 19; refine (isRate_any _ _).mono ?_; rintro e w' ⟨rfl, rfl⟩))
    go_ret
    exact ⟨rfl, hp.out, ht.out⟩
theorem raGet_any (w : World) (g : Nat) (f : Nat → Int) (m : Int) (h : RaAt w g raTy f) :
    Calls Tryd.prog 10 #[.pointer (some ⟨g, 0, none⟩), .int .i64 m] w fun e w' => e = .returned (.tuple #[.int .i64 (raV f m), .bool (raB f m)]) ∧ w = w' := by
  unfold raB
  rcases raV_ways f m with ⟨rfl, q⟩ | ⟨t1, t2, t3, q⟩ | ⟨t1, t2, q⟩
  · rw [q]
    clear h q
    go_enter Tryd.func10, Tryd.ntmps10
    go_wp2
    go_ret2
    exact ⟨rfl, rfl⟩
  · rw [q]
    obtain ⟨k, rfl⟩ : ∃ k : Nat, m = (k : Int) := ⟨m.toNat, by omega⟩
    have hk : k < 7 := by omega
    have hkI : (k : Int) < 7 := by omega
    have hB : forB (k : Int) = true := decide_eq_true ⟨t2, t3⟩
    have b1 : ((k : Int) == 1) = false := by simpa using t1
    have c1 := h.cell k hk
    rw [show ((k : Int)).toNat = k from Int.toNat_natCast k]
    generalize f k = v at *
    clear h q
    go_enter Tryd.func10, Tryd.ntmps10
    go_wp2_with (first
      | (go_at_call 18; refine (isForeign_any _ _).mono ?_; rintro e w' ⟨rfl, rfl⟩))
    go_ret2
    exact ⟨rfl, rfl⟩
  · rw [q]
    have hB : forB m = false := decide_eq_false t2
    have b1 : (m == 1) = false := by simpa using t1
    clear h q
    go_enter Tryd.func10, Tryd.ntmps10
    go_wp2_with (first
      | (go_at_call 18; refine (isForeign_any _ _).mono ?_; rintro e w' ⟨rfl, rfl⟩))
    go_ret2
    exact ⟨rfl, rfl⟩
def RaRSetAt (g : Nat) (f : Nat → Int) (m r : Int) (w : World) (e : Ending) (w' : World) : Prop :=
  e = .returned (.int .i64 (raC m r)) ∧ RaAt w' g raTyR (raT f m r) ∧ Trd (· = g) w w'
theorem raIn_ways (m r : Int) : (inB m 2 6 = false ∧ ¬ raOk m r) ∨ (inB m 2 6 = true ∧ r < 1 ∧ ¬ raOk m r) ∨ (inB m 2 6 = true ∧ 1 ≤ r ∧ 1000000000 < r ∧ ¬ raOk m r) ∨ (inB m 2 6 = true ∧ 1 ≤ r ∧ r ≤ 1000000000 ∧ raOk m r) := by
  unfold raOk inB
  simp only [decide_eq_true_iff, decide_eq_false_iff_not]
  omega
set_option maxHeartbeats 1600000 in
theorem refRaSet_any (w : World) (g : Nat) (f : Nat → Int) (m r : Int) (h : RaAt w g raTyR f) :
    Calls Tryd.prog 8 #[.pointer (some ⟨g, 0, none⟩), .int .i64 m, .int .i64 r] w (RaRSetAt g f m r w) := by
  unfold RaRSetAt
  rcases raIn_ways m r with ⟨t1, q⟩ | ⟨t1, t2, q⟩ | ⟨t1, t2, t3, q⟩ | ⟨t1, t2, t3, q⟩
  iterate 3
    · rw [show raC m r = 103 from if_neg q, show raT f m r = f from if_neg q]
      replace h := hidden h
      clear q
      go_enter Tryd.func8, Tryd.ntmps8
      go_wp2_with (go_at_call 20; refine (in_any _ _ _ _).mono ?_; rintro e w' ⟨rfl, rfl⟩)
      go_ret
      exact ⟨rfl, h.out, Trd.refl _ _⟩
  · obtain ⟨k, rfl⟩ : ∃ k : Nat, m = (k : Int) := ⟨m.toNat, by unfold raOk at q; omega⟩
    rw [show raC (k : Int) r = 0 from if_pos q]
    have hk : k < 7 := by unfold raOk at q; omega
    have hkI : (k : Int) < 7 := by omega
    have c1 := h.cell k hk
    have f1 := h.frozen k
    have hp := hidden (h.put q)
    have ht := hidden (Trd.setCell (S := (· = g)) w ⟨g, k, none⟩ (.int .i64 r) rfl)
    clear h q
    go_enter Tryd.func8, Tryd.ntmps8
    go_wp2_with (go_at_call 20; refine (in_any _ _ _ _).mono ?_; rintro e w' ⟨rfl, rfl⟩)
    go_ret
    exact ⟨rfl, hp.out, ht.out⟩
theorem refRaGet_any (w : World) (g : Nat) (f : Nat → Int) (m : Int) (h : RaAt w g raTyR f) :
    Calls Tryd.prog 9 #[.pointer (some ⟨g, 0, none⟩), .int .i64 m] w fun e w' => e = .returned (.tuple #[.int .i64 (raV f m), .bool (raB f m)]) ∧ w = w' := by
  unfold raB
  rcases raV_ways f m with ⟨rfl, q⟩ | ⟨t1, t2, t3, q⟩ | ⟨t1, t2, q⟩
  · rw [q]
    clear h q
    go_enter Tryd.func9, Tryd.ntmps9
    go_wp2
    go_ret2
    exact ⟨rfl, rfl⟩
  · rw [q]
    obtain ⟨k, rfl⟩ : ∃ k : Nat, m = (k : Int) := ⟨m.toNat, by omega⟩
    have hk : k < 7 := by omega
    have hkI : (k : Int) < 7 := by omega
    have hB : inB (k : Int) 2 6 = true := decide_eq_true ⟨t2, t3⟩
    have b1 : ((k : Int) == 1) = false := by simpa using t1
    have c1 := h.cell k hk
    rw [show ((k : Int)).toNat = k from Int.toNat_natCast k]
    generalize f k = v at *
    clear h q
    cases hz : (v == 0) with
    | true =>
      have e0 : v = 0 := by simpa using hz
      subst e0
      clear hz
      go_enter Tryd.func9, Tryd.ntmps9
      go_wp2_with (go_at_call 20; refine (in_any _ _ _ _).mono ?_; rintro e w' ⟨rfl, rfl⟩)
      go_ret2
      exact ⟨rfl, rfl⟩
    | false =>
      have hz2 : (v != 0) = true := by simp [bne, hz]
      rw [hz2]
      clear hz2
      go_enter Tryd.func9, Tryd.ntmps9
      go_wp2_with (go_at_call 20; refine (in_any _ _ _ _).mono ?_; rintro e w' ⟨rfl, rfl⟩)
      go_ret2
      exact ⟨rfl, rfl⟩
  · rw [q]
    have hB : inB m 2 6 = false := decide_eq_false t2
    have b1 : (m == 1) = false := by simpa using t1
    clear h q
    go_enter Tryd.func9, Tryd.ntmps9
    go_wp2_with (go_at_call 20; refine (in_any _ _ _ _).mono ?_; rintro e w' ⟨rfl, rfl⟩)
    go_ret2
    exact ⟨rfl, rfl⟩
end Go.Proofs.YtlgpckgedkbpiaaDoor
