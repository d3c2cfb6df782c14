/-
  noCount, outside; what a lot, a cap may be; slices.IndexFunc, slices.ContainsFunc at them; Valid.
-/
import Derived.Test.YtaojahjgfgmpfaaDoorLotsMath
import Derived.Test.YtaojahjgfgmpfaaDoorErr
import Derived.Test.YtaojahjgfgmpfaaDoorLongs
import Derived.Test.YtaojahjgfgmpfaaDoorRowPut
import Derived.Outline
namespace Go.Proofs.YtaojahjgfgmpfaaDoor
open Go.RowKit
set_option linter.unusedVariables false

abbrev pbTy : TypeId := 25
abbrev pbTyR : TypeId := 27
abbrev ltTy : TypeId := 48
abbrev pbA (lv cv : Value) (n : Int) : Value := .agg #[lv, cv, .int .i64 n]
abbrev pbO (t : TypeId) (lv cv : Value) (n : Int) : Obj := .cells #[lv, cv, .int .i64 n] t
abbrev ltO (x : Lt) : Obj := .cells #[.int .i64 x.u, .int .i64 x.v, .int .i64 x.c, .int .i64 x.g] ltTy
/-- what a problem's slices read as. -/
structure PbR (w : World) (lv cv : Value) (L : List Lt) (C : List Int) : Prop where
  lots : Row ltV 4 w lv L
  caps : Reads .i64 w cv C
  big : ∀ x ∈ L, ltBig x
  bigC : ∀ c ∈ C, In64 c
theorem PbR.below {w w' : World} {lv cv : Value} {L : List Lt} {C : List Int} {B : Nat} (h : PbR w lv cv L C) (hb : Below B w w') (hB : w.heap.size ≤ B) : PbR w' lv cv L C := ⟨h.lots.below ltV_len hb hB, h.caps.below hb hB, h.big, h.bigC⟩
theorem PbR.len {w : World} {lv cv : Value} {L : List Lt} {C : List Int} (h : PbR w lv cv L C) : (L.length : Int) ≤ 9223372036854775807 ∧ (C.length : Int) ≤ 9223372036854775807 := by
  obtain ⟨⟨_, _, _, h1, h2, _⟩, ⟨_, _, _, _, h3, h4, h5, _⟩, _, _⟩ := h
  unfold maxLen at h2 h5
  omega
theorem PbR.lotBig {w : World} {lv cv : Value} {L : List Lt} {C : List Int} (h : PbR w lv cv L C) {k : Nat} (hk : k < L.length) : ltBig (L.getD k ltZ) := by
  rw [List.getD_eq_getElem?_getD, List.getElem?_eq_getElem hk]; exact h.big _ (List.getElem_mem hk)
theorem PbR.capBig {w : World} {lv cv : Value} {L : List Lt} {C : List Int} (h : PbR w lv cv L C) {k : Nat} (hk : k < C.length) : In64 (C.getD k 0) := by
  rw [List.getD_eq_getElem?_getD, List.getElem?_eq_getElem hk]; exact h.bigC _ (List.getElem_mem hk)
/-- a problem in a block of its own. -/
structure PbAt (w : World) (g : Nat) (t : TypeId) (lv cv : Value) (n : Int) : Prop where
  row : w.heap[g]? = some (pbO t lv cv n)
theorem PbAt.cells {w : World} {g : Nat} {t : TypeId} {lv cv : Value} {n : Int} (h : PbAt w g t lv cv n) : w.cell? ⟨g, 0, none⟩ = some lv ∧ w.cell? ⟨g, 1, none⟩ = some cv ∧ w.cell? ⟨g, 2, none⟩ = some (.int .i64 n) := by
  refine ⟨?_, ?_, ?_⟩ <;> (rw [cell_of_row _ _ _ _ _ _ h.row]; rfl)
theorem PbAt.lt {w : World} {g : Nat} {t : TypeId} {lv cv : Value} {n : Int} (h : PbAt w g t lv cv n) : g < w.heap.size := (Array.getElem?_eq_some_iff.1 h.row).1
theorem PbAt.below {w w' : World} {g : Nat} {t : TypeId} {lv cv : Value} {n : Int} {B : Nat} (h : PbAt w g t lv cv n) (hb : Below B w w') (hB : w.heap.size ≤ B) : PbAt w' g t lv cv n := ⟨by rw [hb.block _ (Nat.lt_of_lt_of_le h.lt hB)]; exact h.row⟩
theorem pbAt_new (w : World) (t : TypeId) (lv cv : Value) (n : Int) : PbAt (w.alloc (pbO t lv cv n)) w.heap.size t lv cv n := ⟨heap_alloc_new w _⟩
theorem below_pb (w : World) (t : TypeId) (lv cv : Value) (n : Int) : Below w.heap.size w (w.alloc (pbO t lv cv n)) := (Below.refl _ w).alloc (Nat.le_refl _) _
theorem below_lt (w : World) (x : Lt) : Below w.heap.size w (w.alloc (ltO x)) := (Below.refl _ w).alloc (Nat.le_refl _) _
abbrev LotAt (w : World) (b o : Nat) (x : Lt) : Prop := w.cell? ⟨b, o, none⟩ = some (.int .i64 x.u) ∧ w.cell? ⟨b, o + 1, none⟩ = some (.int .i64 x.v) ∧ w.cell? ⟨b, o + 2, none⟩ = some (.int .i64 x.c) ∧ w.cell? ⟨b, o + 3, none⟩ = some (.int .i64 x.g)
theorem rowLt_at {w : World} {a : Option Addr} {n c : Nat} {l : List Lt} (h : Row ltV 4 w (.slice a n c) l) (k : Nat) (hk : k < n) : ∃ b o, a = some ⟨b, o, none⟩ ∧ LotAt w b (o + k * 4) (l.getD k ltZ) := by
  obtain ⟨b, o, rfl, hc⟩ := h.at ltV_len ltZ k hk (by decide)
  exact ⟨b, o, rfl, hc 0 (by omega), hc 1 (by omega), hc 2 (by omega), hc 3 (by omega)⟩

/-! Tests. -/
def ouB (n m : Int) : Bool := decide (n < 0 ∨ m < n)
theorem ouB_ways (n m : Int) : (decide (n < 0) = true ∧ ouB n m = true) ∨ (decide (n < 0) = false ∧ decide (m < n) = true ∧ ouB n m = true) ∨ (decide (n < 0) = false ∧ decide (m < n) = false ∧ ouB n m = false) := by
  unfold ouB
  simp only [decide_eq_true_iff, decide_eq_false_iff_not]
  omega
theorem ltOut_any (n m : Int) (w : World) : Calls Tryd.prog 38 #[.int .i64 n, .int .i64 m] w fun e w' => e = .returned (.bool (ouB n m)) ∧ w = w' := by
  have hw := ouB_ways n m
  generalize ouB n m = b at *
  rcases hw with ⟨t1, q⟩ | ⟨t1, t2, q⟩ | ⟨t1, t2, q⟩
  all_goals
    subst q
    go_enter Tryd.func38, Tryd.ntmps38
    go_wp2
    go_ret
    exact ⟨rfl, rfl⟩
def mnB (n : Int) : Bool := decide (n < 1 ∨ 8 < n)
theorem mnB_ways (n : Int) : (decide (n < 1) = true ∧ mnB n = true) ∨ (decide (n < 1) = false ∧ decide (8 < n) = true ∧ mnB n = true) ∨ (decide (n < 1) = false ∧ decide (8 < n) = false ∧ mnB n = false) := by
  unfold mnB
  simp only [decide_eq_true_iff, decide_eq_false_iff_not]
  omega
theorem noCount_any (n : Int) (w : World) : Calls Tryd.prog 36 #[.int .i64 n] w fun e w' => e = .returned (.bool (mnB n)) ∧ w = w' := by
  have hw := mnB_ways n
  generalize mnB n = b at *
  rcases hw with ⟨t1, q⟩ | ⟨t1, t2, q⟩ | ⟨t1, t2, q⟩
  all_goals
    subst q
    go_enter Tryd.func36, Tryd.ntmps36
    go_wp2
    go_ret
    exact ⟨rfl, rfl⟩
def wrB (m : Nat) (x : Lt) : Bool := !decide (ltOk m x)
def wcB (c : Int) : Bool := !decide (capOk c)
theorem wcB_ou (c : Int) : ouB c 1000000000000 = wcB c := by
  unfold ouB wcB
  rw [Bool.eq_iff_iff]
  simp only [decide_eq_true_iff, Bool.not_eq_true', decide_eq_false_iff_not]
  unfold capOk
  omega
theorem wrB_ways (m : Nat) (x : Lt) : (ouB x.u 1000 = true ∧ wrB m x = true) ∨ (ouB x.u 1000 = false ∧ ouB x.v 1000000000 = true ∧ wrB m x = true) ∨ (ouB x.u 1000 = false ∧ ouB x.v 1000000000 = false ∧ ouB x.c 1000000000 = true ∧ wrB m x = true) ∨
    (ouB x.u 1000 = false ∧ ouB x.v 1000000000 = false ∧ ouB x.c 1000000000 = false ∧ ouB x.g ((m : Int) - 1) = true ∧ wrB m x = true) ∨ (ouB x.u 1000 = false ∧ ouB x.v 1000000000 = false ∧ ouB x.c 1000000000 = false ∧ ouB x.g ((m : Int) - 1) = false ∧ wrB m x = false) := by
  unfold wrB
  simp only [ouB, decide_eq_true_iff, decide_eq_false_iff_not, Bool.not_eq_true', Bool.not_eq_false']
  unfold ltOk
  omega
set_option maxHeartbeats 1600000 in
theorem wrongLot_any (x : Lt) (g : Nat) (ca : Option Addr) (m cc : Nat) (w : World) (hc : w.cell? ⟨g, 1, none⟩ = some (.slice ca m cc)) (hm : m ≤ 8) :
    Calls Tryd.prog 37 #[ltA x, .pointer (some ⟨g, 0, none⟩)] w fun e w' => e = .returned (.bool (wrB m x)) ∧ Below w.heap.size w w' := by
  have hb := hidden (below_lt w x)
  have hcn : (w.alloc (ltO x)).cell? ⟨g, 1, none⟩ = some (.slice ca m cc) := by
    rw [World.cell?_of_block (w := w) (hb.out.block _ (World.block_lt_of_cell? w _ hc))]; exact hc
  have hw := wrB_ways m x
  have h1 := hidden (fun W => ltOut_any x.u 1000 W)
  have h2 := hidden (fun W => ltOut_any x.v 1000000000 W)
  have h3 := hidden (fun W => ltOut_any x.c 1000000000 W)
  have h4 := hidden (fun W => ltOut_any x.g ((m : Int) - 1) W)
  have hmI : (m : Int) ≤ 8 := by omega
  have hwr : IntKind.i64.wrap ((m : Int) - 1) = (m : Int) - 1 := by rw [IntKind.wrap_i64]; omega
  clear hc
  generalize wrB m x = r at *
  generalize ouB x.u 1000 = b1 at *
  generalize ouB x.v 1000000000 = b2 at *
  generalize ouB x.c 1000000000 = b3 at *
  generalize ouB x.g ((m : Int) - 1) = b4 at *
  obtain ⟨u, v, c, gg⟩ := x
  simp only at h1 h2 h3 h4
  rcases hw with ⟨t1, q⟩ | ⟨t1, t2, q⟩ | ⟨t1, t2, t3, q⟩ | ⟨t1, t2, t3, t4, q⟩ | ⟨t1, t2, t3, t4, q⟩
  all_goals
    subst q
    subst t1
    try subst t2
    try subst t3
    try subst t4
    go_enter Tryd.func37, Tryd.ntmps37
    go_wp2_with (first
      | (go_at_call 38; (with_reducible refine (h1.out _).mono ?_); rintro e w' ⟨rfl, rfl⟩)
      | (go_at_call 38; (with_reducible refine (h2.out _).mono ?_); rintro e w' ⟨rfl, rfl⟩)
      | (go_at_call 38; (with_reducible refine (h3.out _).mono ?_); rintro e w' ⟨rfl, rfl⟩)
      | (go_at_call 38; (with_reducible refine (h4.out _).mono ?_); rintro e w' ⟨rfl, rfl⟩))
    go_ret
    exact ⟨rfl, hb.out⟩
theorem wrongCap_any (c : Int) (w : World) : Calls Tryd.prog 39 #[.int .i64 c] w fun e w' => e = .returned (.bool (wcB c)) ∧ w = w' := by
  have h1 := hidden (ltOut_any c 1000000000000 w)
  rw [wcB_ou] at h1
  generalize wcB c = r at *
  go_enter Tryd.func39, Tryd.ntmps39
  go_wp2_with (go_at_call 38; (with_reducible refine h1.out.mono ?_); rintro e w' ⟨rfl, rfl⟩)
  go_ret
  exact ⟨rfl, rfl⟩
def noneB {α : Type} (f : α → Bool) (d : α) (l : List α) (k : Nat) : Prop := ∀ j, j < k → f (l.getD j d) = false
theorem noneB_next {α : Type} {f : α → Bool} {d : α} {l : List α} {k : Nat} (h : noneB f d l k) (hk : f (l.getD k d) = false) : noneB f d l (k + 1) := fun j hj => by
  by_cases e : j = k
  · subst e; exact hk
  · exact h j (by omega)
theorem noneB_all {α : Type} {f : α → Bool} {d : α} {l : List α} (h : noneB f d l l.length) : l.any f = false := by
  rw [List.any_eq_false]
  intro x hx
  obtain ⟨j, hj, rfl⟩ := List.getElem_of_mem hx
  have := h j hj
  rw [List.getD_eq_getElem?_getD, List.getElem?_eq_getElem hj] at this
  simpa using this
theorem someB {α : Type} {f : α → Bool} {d : α} {l : List α} {k : Nat} (hl : k < l.length) (hk : f (l.getD k d) = true) : l.any f = true := by
  rw [List.any_eq_true]
  refine ⟨l.getD k d, ?_, hk⟩
  rw [List.getD_eq_getElem?_getD, List.getElem?_eq_getElem hl]
  exact List.getElem_mem hl
def IxAt (b : Bool) (w : World) (e : Ending) (w' : World) : Prop := ∃ r : Int, e = .returned (.int .i64 r) ∧ decide (0 ≤ r) = b ∧ Below w.heap.size w w'
def IxRel {α : Type} (f : α → Bool) (d : α) (l : List α) (w0 : World) (i : Value) (w : World) : Prop := ∃ k : Nat, k ≤ l.length ∧ i = .int .i64 (k : Int) ∧ noneB f d l k ∧ Below w0.heap.size w0 w
set_option maxHeartbeats 3200000 in
theorem indexLots_any (la : Option Addr) (lc : Nat) (L : List Lt) (g : Nat) (ca : Option Addr) (m cc : Nat) (w : World) (hr : Row ltV 4 w (.slice la L.length lc) L) (hl : L.length ≤ 1000000) (hc : w.cell? ⟨g, 1, none⟩ = some (.slice ca m cc)) (hm : m ≤ 8) :
    Calls Tryd.prog 53 #[.slice la L.length lc, .func (.func 37) #[] #[.pointer (some ⟨g, 0, none⟩)]] w (IxAt (L.any (wrB m)) w) := by
  have hx := hidden (fun k hk W (h2 : Below w.heap.size w W) => rowLt_at (hr.below ltV_len h2 (Nat.le_refl _)) k hk)
  have hW := hidden (fun x W (h2 : Below w.heap.size w W) => wrongLot_any x g ca m cc W (by rw [World.cell?_of_block (w := w) (h2.block _ (World.block_lt_of_cell? w _ hc))]; exact hc) hm)
  clear hr hc
  unfold IxAt
  go_enter Tryd.func53, Tryd.ntmps53
  go_wp2_with fail
  go_loopw [8] (fun i wr => IxRel (wrB m) ltZ L w i wr) (fun i _ => L.length - (RowKit.intOf i).toNat)
  case atStart => exact ⟨0, Nat.zero_le _, rfl, (fun j hj => by omega), Below.refl _ _⟩
  case round =>
    obtain ⟨k, hk, rfl, hno, hb⟩ := hrel
    by_cases hlt : k < L.length
    · obtain ⟨b, o, rfl, q0, q1, q2, q3⟩ := hx.out k hlt _ hb
      have hlI : (k : Int) < (L.length : Int) := by omega
      have hs := hidden (hW.out (L.getD k ltZ) wr hb)
      cases hB : wrB m (L.getD k ltZ)
      · have hN := hidden (noneB_next hno hB)
        rw [hB] at hs
        clear hB hno hx hW
        generalize L.getD k ltZ = x at *
        obtain ⟨u, v, c, gg⟩ := x
        simp only at q0 q1 q2 q3
        replace hb := hidden hb
        go_wp2_with (go_at_call 37; (with_reducible refine hs.out.mono ?_); rintro e w5 ⟨rfl, hb5⟩; replace hb5 := hidden hb5)
        go_roundw
        case rel => exact ⟨k + 1, hlt, by go_num, hN.out, hb.out.trans (hb5.out.mono hb.out.size)⟩
        case measure => simp [RowKit.intOf]; omega
      · have hY := hidden (someB (f := wrB m) (d := ltZ) hlt hB)
        rw [hB] at hs
        clear hB hno hx hW
        generalize L.getD k ltZ = x at *
        obtain ⟨u, v, c, gg⟩ := x
        simp only at q0 q1 q2 q3
        replace hb := hidden hb
        go_wp2_with (go_at_call 37; (with_reducible refine hs.out.mono ?_); rintro e w5 ⟨rfl, hb5⟩; replace hb5 := hidden hb5)
        go_ret
        exact ⟨k, rfl, by rw [hY.out]; exact decide_eq_true (by omega), hb.out.trans (hb5.out.mono hb.out.size)⟩
    · obtain rfl : k = L.length := by omega
      have hN := hidden (noneB_all hno)
      replace hb := hidden hb
      clear hno
      go_wp2
      go_ret
      exact ⟨-1, rfl, by rw [hN.out]; rfl, hb.out⟩
set_option maxHeartbeats 3200000 in
theorem indexCaps_any (va : Option Addr) (vc : Nat) (C : List Int) (w : World) (hr : Reads .i64 w (.slice va C.length vc) C) (hl : C.length ≤ 1000000) :
    Calls Tryd.prog 54 #[.slice va C.length vc, .func (.func 39) #[] #[]] w (IxAt (C.any wcB) w) := by
  have hx := hidden (fun k hk W (h2 : Below w.heap.size w W) => (hr.below h2 (Nat.le_refl _)).cell k hk)
  have hW := hidden (fun x W => wrongCap_any x W)
  clear hr
  unfold IxAt
  go_enter Tryd.func54, Tryd.ntmps54
  go_wp2_with fail
  go_loopw [8] (fun i wr => IxRel wcB 0 C w i wr) (fun i _ => C.length - (RowKit.intOf i).toNat)
  case atStart => exact ⟨0, Nat.zero_le _, rfl, (fun j hj => by omega), Below.refl _ _⟩
  case round =>
    obtain ⟨k, hk, rfl, hno, hb⟩ := hrel
    by_cases hlt : k < C.length
    · obtain ⟨b, o, rfl, q0⟩ := hx.out k hlt _ hb
      have hlI : (k : Int) < (C.length : Int) := by omega
      have hs := hidden (hW.out (C.getD k 0) wr)
      cases hB : wcB (C.getD k 0)
      · have hN := hidden (noneB_next hno hB)
        rw [hB] at hs
        clear hB hno hx hW
        generalize C.getD k 0 = x at *
        replace hb := hidden hb
        go_wp2_with (go_at_call 39; (with_reducible refine hs.out.mono ?_); rintro e w5 ⟨rfl, rfl⟩)
        go_roundw
        case rel => exact ⟨k + 1, hlt, by go_num, hN.out, hb.out⟩
        case measure => simp [RowKit.intOf]; omega
      · have hY := hidden (someB (f := wcB) (d := 0) hlt hB)
        rw [hB] at hs
        clear hB hno hx hW
        generalize C.getD k 0 = x at *
        replace hb := hidden hb
        go_wp2_with (go_at_call 39; (with_reducible refine hs.out.mono ?_); rintro e w5 ⟨rfl, rfl⟩)
        go_ret
        exact ⟨k, rfl, by rw [hY.out]; exact decide_eq_true (by omega), hb.out⟩
    · obtain rfl : k = C.length := by omega
      have hN := hidden (noneB_all hno)
      replace hb := hidden hb
      clear hno
      go_wp2
      go_ret
      exact ⟨-1, rfl, by rw [hN.out]; rfl, hb.out⟩
end Go.Proofs.YtaojahjgfgmpfaaDoor
