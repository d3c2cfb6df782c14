/-
  The document's own limits: Set, Get; most, sum, amount.
-/
import Derived.Test.YtghkmagofadkfaaDoorCaps1
import Derived.Test.YtghkmagofadkfaaDoorIn10
import Derived.Deep.WholeRow
namespace Go.Proofs.YtghkmagofadkfaaDoor
open Go.RowKit Go.Maps
set_option linter.unusedVariables false

/-- the place's limit. -/
def limAt (i : Nat) : LimT := if i < 7 then (1, (i : Int)) else if i < 14 then (2, ((i - 7 : Nat) : Int)) else (3, ((i - 14 : Nat) : Int))
theorem limAt_inj {i j : Nat} (h : limAt i = limAt j) : i = j := by
  unfold limAt at h
  split at h
  · split at h
    · simp only [Prod.mk.injEq, true_and] at h; omega
    · split at h
      · simp only [Prod.mk.injEq] at h; omega
      · simp only [Prod.mk.injEq] at h; omega
  · split at h
    · split at h
      · simp only [Prod.mk.injEq] at h; omega
      · split at h
        · simp only [Prod.mk.injEq, true_and] at h; omega
        · simp only [Prod.mk.injEq] at h; omega
    · split at h
      · simp only [Prod.mk.injEq] at h; omega
      · split at h
        · simp only [Prod.mk.injEq] at h; omega
        · simp only [Prod.mk.injEq, true_and] at h; omega
def cpC (T : CTab) : Array Value := ((List.range 47).map (fun i => Value.int .i64 (getC T (limAt i)))).toArray
theorem cpC_at (T : CTab) (i : Nat) (h : i < 47) : (cpC T)[i]? = some (.int .i64 (getC T (limAt i))) := by simp [cpC, h]
theorem cpC_size (T : CTab) : (cpC T).size = 47 := by simp [cpC]
theorem refCaps_zero (w : World) : (zeroValue 33).run Tryd.prog w = .ok (.agg (cpC noC)) w :=
  (zero_of_info (n := 47) (show (Tryd.prog.info? 33).map (fun i => (i.zero, i.size)) = some (some (.agg (cpC noC)), 47) by kernel_rfl)).1 w
/-- block g is the document's limits. -/
structure RcAt (w : World) (g : Nat) (T : CTab) : Prop where
  row : w.heap[g]? = some (.cells (cpC T) 33 (0, 0))
  ca : CaT T
theorem rcAt_new (w : World) : RcAt (w.alloc (.cells (cpC noC) 33)) w.heap.size noC := ⟨heap_alloc_new w _, noC_ca⟩
section
variable {w w' : World} {g : Nat} {T : CTab}
theorem RcAt.lt (h : RcAt w g T) : g < w.heap.size := (Array.getElem?_eq_some_iff.1 h.row).1
theorem RcAt.block (h : RcAt w g T) (hb : w'.heap[g]? = w.heap[g]?) : RcAt w' g T := ⟨hb.trans h.row, h.ca⟩
theorem RcAt.below (h : RcAt w g T) (hb : Below w.heap.size w w') : RcAt w' g T := h.block (hb.block _ h.lt)
theorem RcAt.trd {S : Nat → Prop} (h : RcAt w g T) (ht : Trd S w w') (hg : ¬ S g) : RcAt w' g T := h.block (ht.block _ h.lt hg)
theorem RcAt.cell (h : RcAt w g T) (i : Nat) (hi : i < 47) : w.cell? ⟨g, i, none⟩ = some (.int .i64 (getC T (limAt i))) := by rw [cell_of_row _ _ _ _ _ _ h.row, cpC_at T i hi]
theorem RcAt.c1 (h : RcAt w g T) (k : Nat) (hk : k < 7) : w.cell? ⟨g, k, none⟩ = some (.int .i64 (getC T (1, (k : Int)))) := by
  rw [h.cell k (by omega)]
  unfold limAt
  rw [if_pos hk]
theorem RcAt.c2 (h : RcAt w g T) (k : Nat) (hk : k < 7) : w.cell? ⟨g, 7 + k, none⟩ = some (.int .i64 (getC T (2, (k : Int)))) := by
  rw [h.cell _ (by omega)]
  unfold limAt
  rw [if_neg (by omega), if_pos (by omega), show 7 + k - 7 = k by omega]
theorem RcAt.c3 (h : RcAt w g T) (k : Nat) (hk : k < 33) : w.cell? ⟨g, 14 + k, none⟩ = some (.int .i64 (getC T (3, (k : Int)))) := by
  rw [h.cell _ (by omega)]
  unfold limAt
  rw [if_neg (by omega), if_neg (by omega), show 14 + k - 14 = k by omega]
theorem RcAt.frozen (h : RcAt w g T) (j : Nat) : w.frozen? ⟨g, j, none⟩ = false := by simp [World.frozen?, h.row]
theorem RcAt.put (h : RcAt w g T) {i : Nat} (hi : i < 47) {x : Int} (hs : lmOk (limAt i)) (hx : monOk x) : RcAt (w.setCell ⟨g, i, none⟩ (.int .i64 x)) g (setCT T (limAt i) x) := by
  refine ⟨?_, h.ca.set _ _⟩
  rw [heap_setCell_row h.row]
  congr 2
  apply Array.ext_getElem?
  intro j
  rw [Array.getElem?_setIfInBounds, cpC_size]
  by_cases hj : j < 47
  · rw [cpC_at _ j hj, cpC_at _ j hj, getC_set]
    by_cases e : i = j
    · subst e
      rw [if_pos rfl, if_pos hi, if_pos ⟨hs, hx, rfl⟩]
    · rw [if_neg e, if_neg (fun q => e (limAt_inj q.2.2).symm)]
  · rw [if_neg (by omega)]
    simp [cpC, hj]
end
theorem amt10_ways (n : Int) : (decide (0 ≤ n) = true ∧ decide (n ≤ 1000000000000000) = true ∧ decide (monOk n) = true) ∨ (decide (0 ≤ n) = false ∧ decide (monOk n) = false) ∨ (decide (0 ≤ n) = true ∧ decide (n ≤ 1000000000000000) = false ∧ decide (monOk n) = false) := by
  simp only [decide_eq_true_iff, decide_eq_false_iff_not]
  unfold monOk
  omega
theorem amt10_any (n : Int) (w : World) : Calls Tryd.prog 25 #[.int .i64 n] w fun e w' => e = .returned (.bool (decide (monOk n))) ∧ w = w' := by
  rcases amt10_ways n with ⟨t1, t2, q⟩ | ⟨t1, q⟩ | ⟨t1, t2, q⟩
  all_goals
    replace q := hidden q
    go_enter Tryd.func25, Tryd.ntmps25
    go_wp2
    go_ret
    exact ⟨ret_bool q.out.symm, rfl⟩
theorem most10_any (n m : Int) (w : World) : Calls Tryd.prog 31 #[.int .i64 n, .int .i64 m] w fun e w' => e = .returned (.int .i64 (capN n m)) ∧ w = w' := by
  by_cases h0 : 0 < m
  · by_cases h1 : m < n
    · rw [show capN n m = m from if_pos ⟨h0, h1⟩]
      go_enter Tryd.func31, Tryd.ntmps31
      go_wp2
      go_ret
      exact ⟨rfl, rfl⟩
    · rw [show capN n m = n from if_neg (fun e => h1 e.2)]
      go_enter Tryd.func31, Tryd.ntmps31
      go_wp2
      go_ret
      exact ⟨rfl, rfl⟩
  · rw [show capN n m = n from if_neg (fun e => h0 e.1)]
    go_enter Tryd.func31, Tryd.ntmps31
    go_wp2
    go_ret
    exact ⟨rfl, rfl⟩
theorem sum10_any (a b : Int) (w : World) : Calls Tryd.prog 30 #[.int .i64 a, .int .i64 b] w fun e w' => e = .returned (.tuple #[.int .i64 (IntKind.i64.wrap (a + b)), .bool (decide (IntKind.i64.wrap (a + b) ≤ 1000000000000000))]) ∧ w = w' := by
  generalize hz : IntKind.i64.wrap (a + b) = z
  go_enter Tryd.func30, Tryd.ntmps30
  go_wp2
  all_goals
    go_ret2
    exact ⟨rfl, rfl⟩
def RefCpSetAt (g : Nat) (T : CTab) (s : LimT) (x : Int) (w : World) (e : Ending) (w' : World) : Prop :=
  e = .returned (.int .i64 (setCC s x)) ∧ RcAt w' g (setCT T s x) ∧ Trd (· = g) w w'
set_option maxHeartbeats 1600000 in
theorem refCpSet_any (w : World) (g : Nat) (T : CTab) (s : LimT) (x : Int) (h : RcAt w g T) :
    Calls Tryd.prog 12 #[.pointer (some ⟨g, 0, none⟩), .int .i64 s.1, .int .i64 s.2, .int .i64 x] w (RefCpSetAt g T s x w) := by
  obtain ⟨c, d⟩ := s
  unfold RefCpSetAt
  simp only
  have hA := hidden (fun w => amt10_any x w)
  by_cases hx : monOk x
  · rw [decide_eq_true hx] at hA
    by_cases hs : lmOk (c, d)
    · rw [show setCC (c, d) x = 0 from if_pos ⟨hs, hx⟩]
      obtain ⟨hc, hd1, hd2⟩ := lmOk_ways hs
      have hd3 : d ≤ lmTop c := hs.2
      simp only at hc hd1 hd2
      obtain ⟨k, rfl⟩ : ∃ k : Nat, d = (k : Int) := ⟨d.toNat, by omega⟩
      rcases hc with rfl | rfl | rfl
      · have hd4 : (k : Int) ≤ 6 := hd3
        have hk : k < 7 := by omega
        have e : limAt k = (1, (k : Int)) := by unfold limAt; rw [if_pos hk]
        have hp := h.put (i := k) (by omega) (by rw [e]; exact hs) hx
        rw [e] at hp
        replace hp := hidden hp
        have c1 := h.c1 k hk
        have f1 := h.frozen k
        have ht := hidden (Trd.setCell (S := (· = g)) w ⟨g, k, none⟩ (.int .i64 x) rfl)
        clear h hs hx hd3 e hd2
        go_enter Tryd.func12, Tryd.ntmps12
        go_wp2_with (go_at_call 25; refine (hA.out _).mono ?_; rintro e w' ⟨rfl, rfl⟩)
        go_ret
        exact ⟨rfl, hp.out, ht.out⟩
      · have hd4 : (k : Int) ≤ 6 := hd3
        have hk : k < 7 := by omega
        have e : limAt (7 + k) = (2, (k : Int)) := by unfold limAt; rw [if_neg (by omega), if_pos (by omega), show 7 + k - 7 = k by omega]
        have hp := h.put (i := 7 + k) (by omega) (by rw [e]; exact hs) hx
        rw [e] at hp
        replace hp := hidden hp
        have c1 := h.c2 k hk
        have f1 := h.frozen (7 + k)
        have ht := hidden (Trd.setCell (S := (· = g)) w ⟨g, 7 + k, none⟩ (.int .i64 x) rfl)
        clear h hs hx hd3 e hd2
        go_enter Tryd.func12, Tryd.ntmps12
        go_wp2_with (go_at_call 25; refine (hA.out _).mono ?_; rintro e w' ⟨rfl, rfl⟩)
        go_ret
        exact ⟨rfl, hp.out, ht.out⟩
      · have hd4 : (k : Int) ≤ 32 := hd3
        have hk : k < 33 := by omega
        have e : limAt (14 + k) = (3, (k : Int)) := by unfold limAt; rw [if_neg (by omega), if_neg (by omega), show 14 + k - 14 = k by omega]
        have hp := h.put (i := 14 + k) (by omega) (by rw [e]; exact hs) hx
        rw [e] at hp
        replace hp := hidden hp
        have c1 := h.c3 k hk
        have f1 := h.frozen (14 + k)
        have ht := hidden (Trd.setCell (S := (· = g)) w ⟨g, 14 + k, none⟩ (.int .i64 x) rfl)
        clear h hs hx hd3 e hd2
        go_enter Tryd.func12, Tryd.ntmps12
        go_wp2_with (go_at_call 25; refine (hA.out _).mono ?_; rintro e w' ⟨rfl, rfl⟩)
        go_ret
        exact ⟨rfl, hp.out, ht.out⟩
    · rw [show setCC (c, d) x = 103 from if_neg (fun e => hs e.1), show setCT T (c, d) x = T from if_neg (fun e => hs e.1)]
      replace h := hidden h
      have hw : d < 1 ∨ (1 ≤ d ∧ c = 1 ∧ 6 < d) ∨ (1 ≤ d ∧ c = 2 ∧ 6 < d) ∨ (1 ≤ d ∧ c = 3 ∧ 32 < d) ∨ (1 ≤ d ∧ (c == 1) = false ∧ (c == 2) = false ∧ (c == 3) = false) := by
        unfold lmOk lmTop at hs
        simp only at hs
        by_cases e1 : c = 1
        · rw [if_pos e1] at hs; omega
        · by_cases e2 : c = 2
          · rw [if_neg e1, if_pos e2] at hs; omega
          · by_cases e3 : c = 3
            · rw [if_neg e1, if_neg e2, if_pos e3] at hs; omega
            · simp [e1, e2, e3]; omega
      clear hs hx
      rcases hw with t1 | ⟨t1, rfl, t2⟩ | ⟨t1, rfl, t2⟩ | ⟨t1, rfl, t2⟩ | ⟨t1, t2, t3, t4⟩
      all_goals
        go_enter Tryd.func12, Tryd.ntmps12
        go_wp2_with (go_at_call 25; refine (hA.out _).mono ?_; rintro e w' ⟨rfl, rfl⟩)
        go_ret
        exact ⟨rfl, h.out, Trd.refl _ _⟩
  · rw [decide_eq_false hx] at hA
    rw [show setCC (c, d) x = 103 from if_neg (fun e => hx e.2), show setCT T (c, d) x = T from if_neg (fun e => hx e.2)]
    replace h := hidden h
    clear hx
    go_enter Tryd.func12, Tryd.ntmps12
    go_wp2_with (go_at_call 25; refine (hA.out _).mono ?_; rintro e w' ⟨rfl, rfl⟩)
    go_ret
    exact ⟨rfl, h.out, Trd.refl _ _⟩
theorem refCpGet_any (w : World) (g : Nat) (T : CTab) (c d : Int) (h : RcAt w g T) (h1 : -9223372036854775808 ≤ d) (h2 : d ≤ 9223372036854775807) :
    Calls Tryd.prog 14 #[.pointer (some ⟨g, 0, none⟩), .int .i64 c, .int .i64 d] w fun e w' => e = .returned (.int .i64 (getC T (c, d))) ∧ w = w' := by
  by_cases hs : lmOk (c, d)
  · obtain ⟨hc, hd1, hd2⟩ := lmOk_ways hs
    have hd3 : d ≤ lmTop c := hs.2
    simp only at hc hd1 hd2
    obtain ⟨k, rfl⟩ : ∃ k : Nat, d = (k : Int) := ⟨d.toNat, by omega⟩
    rcases hc with rfl | rfl | rfl
    · have hd4 : (k : Int) ≤ 6 := hd3
      have c1 := h.c1 k (by omega)
      have hi : inB (k : Int) 1 6 = true := decide_eq_true ⟨hd1, hd4⟩
      generalize getC T (1, (k : Int)) = z at *
      clear h hs hd3 hd2 h1 h2
      go_enter Tryd.func14, Tryd.ntmps14
      go_wp2_with (go_at_call 26; refine (in_any _ _ _ _).mono ?_; rintro e w' ⟨rfl, rfl⟩)
      go_ret
      exact ⟨rfl, rfl⟩
    · have hd4 : (k : Int) ≤ 6 := hd3
      have c1 := h.c2 k (by omega)
      have hi : inB (k : Int) 1 6 = true := decide_eq_true ⟨hd1, hd4⟩
      generalize getC T (2, (k : Int)) = z at *
      clear h hs hd3 hd2 h1 h2
      go_enter Tryd.func14, Tryd.ntmps14
      go_wp2_with (go_at_call 26; refine (in_any _ _ _ _).mono ?_; rintro e w' ⟨rfl, rfl⟩)
      go_ret
      exact ⟨rfl, rfl⟩
    · have hd4 : (k : Int) ≤ 32 := hd3
      have c1 := h.c3 k (by omega)
      have hi : inB (k : Int) 1 32 = true := decide_eq_true ⟨hd1, hd4⟩
      generalize getC T (3, (k : Int)) = z at *
      clear h hs hd3 hd2 h1 h2
      go_enter Tryd.func14, Tryd.ntmps14
      go_wp2_with (go_at_call 26; refine (in_any _ _ _ _).mono ?_; rintro e w' ⟨rfl, rfl⟩)
      go_ret
      exact ⟨rfl, rfl⟩
  · rw [h.ca.out hs]
    have hw : (c = 1 ∧ inB d 1 6 = false) ∨ (c = 2 ∧ inB d 1 6 = false) ∨ (c = 3 ∧ inB d 1 32 = false) ∨ ((c == 1) = false ∧ (c == 2) = false ∧ (c == 3) = false) := by
      unfold lmOk lmTop at hs
      unfold inB
      simp only [decide_eq_false_iff_not] at hs ⊢
      by_cases e1 : c = 1
      · rw [if_pos e1] at hs; omega
      · by_cases e2 : c = 2
        · rw [if_neg e1, if_pos e2] at hs; omega
        · by_cases e3 : c = 3
          · rw [if_neg e1, if_neg e2, if_pos e3] at hs; omega
          · simp [e1, e2, e3]
    clear hs h h1 h2
    rcases hw with ⟨rfl, t1⟩ | ⟨rfl, t1⟩ | ⟨rfl, t1⟩ | ⟨t1, t2, t3⟩
    all_goals
      go_enter Tryd.func14, Tryd.ntmps14
      go_wp2_with (go_at_call 26; refine (in_any _ _ _ _).mono ?_; rintro e w' ⟨rfl, rfl⟩)
      go_ret
      exact ⟨rfl, rfl⟩
end Go.Proofs.YtghkmagofadkfaaDoor
