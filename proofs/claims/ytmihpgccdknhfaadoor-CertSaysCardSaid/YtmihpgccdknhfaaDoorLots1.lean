/-
  noCount, outside; what a lot, a cap may be; slices.IndexFunc, slices.ContainsFunc at them; Valid.
  A problem's cells, carried through a drawn region.
  Valid; mayTake.
  mayTake; worth; Worth, Cost, Fits, Most.
  worth: by groups.
  Worth, Cost, Fits, Most.
-/
import Derived.Test.YtmihpgccdknhfaaDoorLotsMath
import Derived.Test.YtmihpgccdknhfaaDoorSee
import Derived.Test.YtmihpgccdknhfaaDoorBase
import Derived.Outline
import Derived.Deep.RegionHeld3
namespace Go.Proofs.YtmihpgccdknhfaaDoor
open Go.RowKit
set_option linter.unusedVariables false

abbrev pbTy : TypeId := 25
abbrev pbTyR : TypeId := 30
abbrev ltTy : TypeId := 55
abbrev pbA (lv cv : Value) (n : Int) : Value := .agg #[lv, cv, .int .i64 n]
abbrev pbO (t : TypeId) (lv cv : Value) (n : Int) : Obj := .cells #[lv, cv, .int .i64 n] t
abbrev ltO (x : Lt) : Obj := .cells #[.int .i64 x.u, .int .i64 x.v, .int .i64 x.c, .int .i64 x.g] ltTy
/-- what a problem's slices read as. -/
structure PbR (w : World) (lv cv : Value) (L : List Lt) (C : List Int) : Prop where
  lots : Row ltV 4 w lv L
  caps : Reads .i64 w cv C
  big : ∀ x ∈ L, ltBig x
  bigC : ∀ c ∈ C, In64 c
theorem PbR.below {w w' : World} {lv cv : Value} {L : List Lt} {C : List Int} {B : Nat} (h : PbR w lv cv L C) (hb : Below B w w') (hB : w.heap.size ≤ B) : PbR w' lv cv L C := ⟨h.lots.below ltV_len hb hB, h.caps.below hb hB, h.big, h.bigC⟩
theorem PbR.len {w : World} {lv cv : Value} {L : List Lt} {C : List Int} (h : PbR w lv cv L C) : (L.length : Int) ≤ 9223372036854775807 ∧ (C.length : Int) ≤ 9223372036854775807 := by
  obtain ⟨⟨_, _, _, h1, h2, _⟩, ⟨_, _, _, _, h3, h4, h5, _⟩, _, _⟩ := h
  unfold maxLen at h2 h5
  omega
theorem PbR.lotBig {w : World} {lv cv : Value} {L : List Lt} {C : List Int} (h : PbR w lv cv L C) {k : Nat} (hk : k < L.length) : ltBig (L.getD k ltZ) := by
  rw [List.getD_eq_getElem?_getD, List.getElem?_eq_getElem hk]; exact h.big _ (List.getElem_mem hk)
theorem PbR.capBig {w : World} {lv cv : Value} {L : List Lt} {C : List Int} (h : PbR w lv cv L C) {k : Nat} (hk : k < C.length) : In64 (C.getD k 0) := by
  rw [List.getD_eq_getElem?_getD, List.getElem?_eq_getElem hk]; exact h.bigC _ (List.getElem_mem hk)
/-- a problem in a block of its own. -/
structure PbAt (w : World) (g : Nat) (t : TypeId) (lv cv : Value) (n : Int) : Prop where
  row : w.heap[g]? = some (pbO t lv cv n)
theorem PbAt.cells {w : World} {g : Nat} {t : TypeId} {lv cv : Value} {n : Int} (h : PbAt w g t lv cv n) : w.cell? ⟨g, 0, none⟩ = some lv ∧ w.cell? ⟨g, 1, none⟩ = some cv ∧ w.cell? ⟨g, 2, none⟩ = some (.int .i64 n) := by
  refine ⟨?_, ?_, ?_⟩ <;> (rw [cell_of_row _ _ _ _ _ _ h.row]; rfl)
theorem PbAt.lt {w : World} {g : Nat} {t : TypeId} {lv cv : Value} {n : Int} (h : PbAt w g t lv cv n) : g < w.heap.size := (Array.getElem?_eq_some_iff.1 h.row).1
theorem PbAt.below {w w' : World} {g : Nat} {t : TypeId} {lv cv : Value} {n : Int} {B : Nat} (h : PbAt w g t lv cv n) (hb : Below B w w') (hB : w.heap.size ≤ B) : PbAt w' g t lv cv n := ⟨by rw [hb.block _ (Nat.lt_of_lt_of_le h.lt hB)]; exact h.row⟩
theorem pbAt_new (w : World) (t : TypeId) (lv cv : Value) (n : Int) : PbAt (w.alloc (pbO t lv cv n)) w.heap.size t lv cv n := ⟨heap_alloc_new w _⟩
theorem below_pb (w : World) (t : TypeId) (lv cv : Value) (n : Int) : Below w.heap.size w (w.alloc (pbO t lv cv n)) := (Below.refl _ w).alloc (Nat.le_refl _) _
theorem below_lt (w : World) (x : Lt) : Below w.heap.size w (w.alloc (ltO x)) := (Below.refl _ w).alloc (Nat.le_refl _) _
abbrev LotAt (w : World) (b o : Nat) (x : Lt) : Prop := w.cell? ⟨b, o, none⟩ = some (.int .i64 x.u) ∧ w.cell? ⟨b, o + 1, none⟩ = some (.int .i64 x.v) ∧ w.cell? ⟨b, o + 2, none⟩ = some (.int .i64 x.c) ∧ w.cell? ⟨b, o + 3, none⟩ = some (.int .i64 x.g)
theorem rowLt_at {w : World} {a : Option Addr} {n c : Nat} {l : List Lt} (h : Row ltV 4 w (.slice a n c) l) (k : Nat) (hk : k < n) : ∃ b o, a = some ⟨b, o, none⟩ ∧ LotAt w b (o + k * 4) (l.getD k ltZ) := by
  obtain ⟨b, o, rfl, hc⟩ := h.at ltV_len ltZ k hk (by decide)
  exact ⟨b, o, rfl, hc 0 (by omega), hc 1 (by omega), hc 2 (by omega), hc 3 (by omega)⟩

/-! Tests. -/
def ouB (n m : Int) : Bool := decide (n < 0 ∨ m < n)
theorem ouB_ways (n m : Int) : (decide (n < 0) = true ∧ ouB n m = true) ∨ (decide (n < 0) = false ∧ decide (m < n) = true ∧ ouB n m = true) ∨ (decide (n < 0) = false ∧ decide (m < n) = false ∧ ouB n m = false) := by
  unfold ouB
  simp only [decide_eq_true_iff, decide_eq_false_iff_not]
  omega
theorem ltOut_any (n m : Int) (w : World) : Calls Tryd.prog 32 #[.int .i64 n, .int .i64 m] w fun e w' => e = .returned (.bool (ouB n m)) ∧ w = w' := by
  have hw := ouB_ways n m
  generalize ouB n m = b at *
  rcases hw with ⟨t1, q⟩ | ⟨t1, t2, q⟩ | ⟨t1, t2, q⟩
  all_goals
    subst q
    go_enter Tryd.func32, Tryd.ntmps32
    go_wp2
    go_ret
    exact ⟨rfl, rfl⟩
def mnB (n : Int) : Bool := decide (n < 1 ∨ 8 < n)
theorem mnB_ways (n : Int) : (decide (n < 1) = true ∧ mnB n = true) ∨ (decide (n < 1) = false ∧ decide (8 < n) = true ∧ mnB n = true) ∨ (decide (n < 1) = false ∧ decide (8 < n) = false ∧ mnB n = false) := by
  unfold mnB
  simp only [decide_eq_true_iff, decide_eq_false_iff_not]
  omega
theorem noCount_any (n : Int) (w : World) : Calls Tryd.prog 30 #[.int .i64 n] w fun e w' => e = .returned (.bool (mnB n)) ∧ w = w' := by
  have hw := mnB_ways n
  generalize mnB n = b at *
  rcases hw with ⟨t1, q⟩ | ⟨t1, t2, q⟩ | ⟨t1, t2, q⟩
  all_goals
    subst q
    go_enter Tryd.func30, Tryd.ntmps30
    go_wp2
    go_ret
    exact ⟨rfl, rfl⟩
def wrB (m : Nat) (x : Lt) : Bool := !decide (ltOk m x)
def wcB (c : Int) : Bool := !decide (capOk c)
theorem wcB_ou (c : Int) : ouB c 1000000000000 = wcB c := by
  unfold ouB wcB
  rw [Bool.eq_iff_iff]
  simp only [decide_eq_true_iff, Bool.not_eq_true', decide_eq_false_iff_not]
  unfold capOk
  omega
theorem wrB_ways (m : Nat) (x : Lt) : (ouB x.u 1000 = true ∧ wrB m x = true) ∨ (ouB x.u 1000 = false ∧ ouB x.v 1000000000 = true ∧ wrB m x = true) ∨ (ouB x.u 1000 = false ∧ ouB x.v 1000000000 = false ∧ ouB x.c 1000000000 = true ∧ wrB m x = true) ∨
    (ouB x.u 1000 = false ∧ ouB x.v 1000000000 = false ∧ ouB x.c 1000000000 = false ∧ ouB x.g ((m : Int) - 1) = true ∧ wrB m x = true) ∨ (ouB x.u 1000 = false ∧ ouB x.v 1000000000 = false ∧ ouB x.c 1000000000 = false ∧ ouB x.g ((m : Int) - 1) = false ∧ wrB m x = false) := by
  unfold wrB
  simp only [ouB, decide_eq_true_iff, decide_eq_false_iff_not, Bool.not_eq_true', Bool.not_eq_false']
  unfold ltOk
  omega
set_option maxHeartbeats 1600000 in
theorem wrongLot_any (x : Lt) (g : Nat) (ca : Option Addr) (m cc : Nat) (w : World) (hc : w.cell? ⟨g, 1, none⟩ = some (.slice ca m cc)) (hm : m ≤ 8) :
    Calls Tryd.prog 31 #[ltA x, .pointer (some ⟨g, 0, none⟩)] w fun e w' => e = .returned (.bool (wrB m x)) ∧ Below w.heap.size w w' := by
  have hb := hidden (below_lt w x)
  have hcn : (w.alloc (ltO x)).cell? ⟨g, 1, none⟩ = some (.slice ca m cc) := by
    rw [World.cell?_of_block (w := w) (hb.out.block _ (World.block_lt_of_cell? w _ hc))]; exact hc
  have hw := wrB_ways m x
  have h1 := hidden (fun W => ltOut_any x.u 1000 W)
  have h2 := hidden (fun W => ltOut_any x.v 1000000000 W)
  have h3 := hidden (fun W => ltOut_any x.c 1000000000 W)
  have h4 := hidden (fun W => ltOut_any x.g ((m : Int) - 1) W)
  have hmI : (m : Int) ≤ 8 := by omega
  have hwr : IntKind.i64.wrap ((m : Int) - 1) = (m : Int) - 1 := by rw [IntKind.wrap_i64]; omega
  clear hc
  generalize wrB m x = r at *
  generalize ouB x.u 1000 = b1 at *
  generalize ouB x.v 1000000000 = b2 at *
  generalize ouB x.c 1000000000 = b3 at *
  generalize ouB x.g ((m : Int) - 1) = b4 at *
  obtain ⟨u, v, c, gg⟩ := x
  simp only at h1 h2 h3 h4
  rcases hw with ⟨t1, q⟩ | ⟨t1, t2, q⟩ | ⟨t1, t2, t3, q⟩ | ⟨t1, t2, t3, t4, q⟩ | ⟨t1, t2, t3, t4, q⟩
  all_goals
    subst q
    subst t1
    try subst t2
    try subst t3
    try subst t4
    go_enter Tryd.func31, Tryd.ntmps31
    go_wp2_with (first
      | (go_at_call 32; (with_reducible refine (h1.out _).mono ?_); rintro e w' ⟨rfl, rfl⟩)
      | (go_at_call 32; (with_reducible refine (h2.out _).mono ?_); rintro e w' ⟨rfl, rfl⟩)
      | (go_at_call 32; (with_reducible refine (h3.out _).mono ?_); rintro e w' ⟨rfl, rfl⟩)
      | (go_at_call 32; (with_reducible refine (h4.out _).mono ?_); rintro e w' ⟨rfl, rfl⟩))
    go_ret
    exact ⟨rfl, hb.out⟩
theorem wrongCap_any (c : Int) (w : World) : Calls Tryd.prog 33 #[.int .i64 c] w fun e w' => e = .returned (.bool (wcB c)) ∧ w = w' := by
  have h1 := hidden (ltOut_any c 1000000000000 w)
  rw [wcB_ou] at h1
  generalize wcB c = r at *
  go_enter Tryd.func33, Tryd.ntmps33
  go_wp2_with (go_at_call 32; (with_reducible refine h1.out.mono ?_); rintro e w' ⟨rfl, rfl⟩)
  go_ret
  exact ⟨rfl, rfl⟩
def noneB {α : Type} (f : α → Bool) (d : α) (l : List α) (k : Nat) : Prop := ∀ j, j < k → f (l.getD j d) = false
theorem noneB_next {α : Type} {f : α → Bool} {d : α} {l : List α} {k : Nat} (h : noneB f d l k) (hk : f (l.getD k d) = false) : noneB f d l (k + 1) := fun j hj => by
  by_cases e : j = k
  · subst e; exact hk
  · exact h j (by omega)
theorem noneB_all {α : Type} {f : α → Bool} {d : α} {l : List α} (h : noneB f d l l.length) : l.any f = false := by
  rw [List.any_eq_false]
  intro x hx
  obtain ⟨j, hj, rfl⟩ := List.getElem_of_mem hx
  have := h j hj
  rw [List.getD_eq_getElem?_getD, List.getElem?_eq_getElem hj] at this
  simpa using this
theorem someB {α : Type} {f : α → Bool} {d : α} {l : List α} {k : Nat} (hl : k < l.length) (hk : f (l.getD k d) = true) : l.any f = true := by
  rw [List.any_eq_true]
  refine ⟨l.getD k d, ?_, hk⟩
  rw [List.getD_eq_getElem?_getD, List.getElem?_eq_getElem hl]
  exact List.getElem_mem hl
def IxAt (b : Bool) (w : World) (e : Ending) (w' : World) : Prop := ∃ r : Int, e = .returned (.int .i64 r) ∧ decide (0 ≤ r) = b ∧ Below w.heap.size w w'
def IxRel {α : Type} (f : α → Bool) (d : α) (l : List α) (w0 : World) (i : Value) (w : World) : Prop := ∃ k : Nat, k ≤ l.length ∧ i = .int .i64 (k : Int) ∧ noneB f d l k ∧ Below w0.heap.size w0 w
set_option maxHeartbeats 3200000 in
theorem indexLots_any (la : Option Addr) (lc : Nat) (L : List Lt) (g : Nat) (ca : Option Addr) (m cc : Nat) (w : World) (hr : Row ltV 4 w (.slice la L.length lc) L) (hl : L.length ≤ 1000000) (hc : w.cell? ⟨g, 1, none⟩ = some (.slice ca m cc)) (hm : m ≤ 8) :
    Calls Tryd.prog 52 #[.slice la L.length lc, .func (.func 31) #[] #[.pointer (some ⟨g, 0, none⟩)]] w (IxAt (L.any (wrB m)) w) := by
  have hx := hidden (fun k hk W (h2 : Below w.heap.size w W) => rowLt_at (hr.below ltV_len h2 (Nat.le_refl _)) k hk)
  have hW := hidden (fun x W (h2 : Below w.heap.size w W) => wrongLot_any x g ca m cc W (by rw [World.cell?_of_block (w := w) (h2.block _ (World.block_lt_of_cell? w _ hc))]; exact hc) hm)
  clear hr hc
  unfold IxAt
  go_enter Tryd.func52, Tryd.ntmps52
  go_wp2_with fail
  go_loopw [8] (fun i wr => IxRel (wrB m) ltZ L w i wr) (fun i _ => L.length - (RowKit.intOf i).toNat)
  case atStart => exact ⟨0, Nat.zero_le _, rfl, (fun j hj => by omega), Below.refl _ _⟩
  case round =>
    obtain ⟨k, hk, rfl, hno, hb⟩ := hrel
    by_cases hlt : k < L.length
    · obtain ⟨b, o, rfl, q0, q1, q2, q3⟩ := hx.out k hlt _ hb
      have hlI : (k : Int) < (L.length : Int) := by omega
      have hs := hidden (hW.out (L.getD k ltZ) wr hb)
      cases hB : wrB m (L.getD k ltZ)
      · have hN := hidden (noneB_next hno hB)
        rw [hB] at hs
        clear hB hno hx hW
        generalize L.getD k ltZ = x at *
        obtain ⟨u, v, c, gg⟩ := x
        simp only at q0 q1 q2 q3
        replace hb := hidden hb
        go_wp2_with (go_at_call 31; (with_reducible refine hs.out.mono ?_); rintro e w5 ⟨rfl, hb5⟩; replace hb5 := hidden hb5)
        go_roundw
        case rel => exact ⟨k + 1, hlt, by go_num, hN.out, hb.out.trans (hb5.out.mono hb.out.size)⟩
        case measure => simp [RowKit.intOf]; omega
      · have hY := hidden (someB (f := wrB m) (d := ltZ) hlt hB)
        rw [hB] at hs
        clear hB hno hx hW
        generalize L.getD k ltZ = x at *
        obtain ⟨u, v, c, gg⟩ := x
        simp only at q0 q1 q2 q3
        replace hb := hidden hb
        go_wp2_with (go_at_call 31; (with_reducible refine hs.out.mono ?_); rintro e w5 ⟨rfl, hb5⟩; replace hb5 := hidden hb5)
        go_ret
        exact ⟨k, rfl, by rw [hY.out]; exact decide_eq_true (by omega), hb.out.trans (hb5.out.mono hb.out.size)⟩
    · obtain rfl : k = L.length := by omega
      have hN := hidden (noneB_all hno)
      replace hb := hidden hb
      clear hno
      go_wp2
      go_ret
      exact ⟨-1, rfl, by rw [hN.out]; rfl, hb.out⟩
set_option maxHeartbeats 3200000 in
theorem indexCaps_any (va : Option Addr) (vc : Nat) (C : List Int) (w : World) (hr : Reads .i64 w (.slice va C.length vc) C) (hl : C.length ≤ 1000000) :
    Calls Tryd.prog 53 #[.slice va C.length vc, .func (.func 33) #[] #[]] w (IxAt (C.any wcB) w) := by
  have hx := hidden (fun k hk W (h2 : Below w.heap.size w W) => (hr.below h2 (Nat.le_refl _)).cell k hk)
  have hW := hidden (fun x W => wrongCap_any x W)
  clear hr
  unfold IxAt
  go_enter Tryd.func53, Tryd.ntmps53
  go_wp2_with fail
  go_loopw [8] (fun i wr => IxRel wcB 0 C w i wr) (fun i _ => C.length - (RowKit.intOf i).toNat)
  case atStart => exact ⟨0, Nat.zero_le _, rfl, (fun j hj => by omega), Below.refl _ _⟩
  case round =>
    obtain ⟨k, hk, rfl, hno, hb⟩ := hrel
    by_cases hlt : k < C.length
    · obtain ⟨b, o, rfl, q0⟩ := hx.out k hlt _ hb
      have hlI : (k : Int) < (C.length : Int) := by omega
      have hs := hidden (hW.out (C.getD k 0) wr)
      cases hB : wcB (C.getD k 0)
      · have hN := hidden (noneB_next hno hB)
        rw [hB] at hs
        clear hB hno hx hW
        generalize C.getD k 0 = x at *
        replace hb := hidden hb
        go_wp2_with (go_at_call 33; (with_reducible refine hs.out.mono ?_); rintro e w5 ⟨rfl, rfl⟩)
        go_roundw
        case rel => exact ⟨k + 1, hlt, by go_num, hN.out, hb.out⟩
        case measure => simp [RowKit.intOf]; omega
      · have hY := hidden (someB (f := wcB) (d := 0) hlt hB)
        rw [hB] at hs
        clear hB hno hx hW
        generalize C.getD k 0 = x at *
        replace hb := hidden hb
        go_wp2_with (go_at_call 33; (with_reducible refine hs.out.mono ?_); rintro e w5 ⟨rfl, rfl⟩)
        go_ret
        exact ⟨k, rfl, by rw [hY.out]; exact decide_eq_true (by omega), hb.out⟩
    · obtain rfl : k = C.length := by omega
      have hN := hidden (noneB_all hno)
      replace hb := hidden hb
      clear hno
      go_wp2
      go_ret
      exact ⟨-1, rfl, by rw [hN.out]; rfl, hb.out⟩
end Go.Proofs.YtmihpgccdknhfaaDoor
namespace Go.Proofs.YtmihpgccdknhfaaDoor
open Go.RowKit
set_option linter.unusedVariables false

abbrev PbS (w0 : World) (g : Nat) (lv cv : Value) (n : Int) (W : World) : Prop := W.cell? ⟨g, 0, none⟩ = some lv ∧ W.cell? ⟨g, 1, none⟩ = some cv ∧ W.cell? ⟨g, 2, none⟩ = some (.int .i64 n) ∧ Below w0.heap.size w0 W
theorem pbS_drew {w0 W : World} {g : Nat} {lv cv : Value} {n : Int} (h : PbS w0 g lv cv n W) : PbS w0 g lv cv n W.drew := ⟨h.1, h.2.1, h.2.2.1, h.2.2.2.drew⟩
theorem pbS_next {w0 W W' : World} {g : Nat} {lv cv : Value} {n : Int} (h : PbS w0 g lv cv n W) (hb : Below W.heap.size W W') : PbS w0 g lv cv n W' := by
  have hlt : g < W.heap.size := World.block_lt_of_cell? W _ h.1
  have e : ∀ p : Nat, W'.cell? ⟨g, p, none⟩ = W.cell? ⟨g, p, none⟩ := fun p => World.cell?_of_block (hb.block g hlt)
  exact ⟨(e 0).trans h.1, (e 1).trans h.2.1, (e 2).trans h.2.2.1, h.2.2.2.trans (hb.mono h.2.2.2.size)⟩
end Go.Proofs.YtmihpgccdknhfaaDoor
namespace Go.Proofs.YtmihpgccdknhfaaDoor
open Go.RowKit
set_option linter.unusedVariables false

theorem mn_many (L : List Lt) (C : List Int) : (mnB (L.length : Int) = true ∧ ¬ manyOk L C) ∨ (mnB (L.length : Int) = false ∧ mnB (C.length : Int) = true ∧ ¬ manyOk L C) ∨ (mnB (L.length : Int) = false ∧ mnB (C.length : Int) = false ∧ manyOk L C) := by
  simp only [mnB, decide_eq_true_iff, decide_eq_false_iff_not]
  unfold manyOk
  omega
theorem any_wr (m : Nat) (L : List Lt) : L.any (wrB m) = false ↔ ∀ x ∈ L, ltOk m x := by
  rw [List.any_eq_false]
  unfold wrB
  simp
theorem any_wc (C : List Int) : C.any wcB = false ↔ ∀ x ∈ C, capOk x := by
  rw [List.any_eq_false]
  unfold wcB
  simp
theorem parts_ways (L : List Lt) (C : List Int) (n : Int) : (L.any (wrB C.length) = true ∧ ¬ partsOk L C n) ∨ (L.any (wrB C.length) = false ∧ C.any wcB = true ∧ ¬ partsOk L C n) ∨ (L.any (wrB C.length) = false ∧ C.any wcB = false ∧ wcB n = true ∧ ¬ partsOk L C n) ∨ (L.any (wrB C.length) = false ∧ C.any wcB = false ∧ wcB n = false ∧ partsOk L C n) := by
  have h1 := any_wr C.length L
  have h2 := any_wc C
  have h3 : wcB n = false ↔ capOk n := by unfold wcB; simp
  unfold partsOk
  cases a : L.any (wrB C.length) <;> cases b : C.any wcB <;> cases c : wcB n <;> simp_all
set_option maxHeartbeats 1600000 in
theorem hasLots_any (la : Option Addr) (lc : Nat) (L : List Lt) (g : Nat) (ca : Option Addr) (m cc : Nat) (w : World) (hr : Row ltV 4 w (.slice la L.length lc) L) (hl : L.length ≤ 1000000) (hc : w.cell? ⟨g, 1, none⟩ = some (.slice ca m cc)) (hm : m ≤ 8) :
    Calls Tryd.prog 34 #[.slice la L.length lc, .func (.func 31) #[] #[.pointer (some ⟨g, 0, none⟩)]] w fun e w' => e = .returned (.bool (L.any (wrB m))) ∧ Below w.heap.size w w' := by
  have h1 := hidden (indexLots_any la lc L g ca m cc w hr hl hc hm)
  unfold IxAt at h1
  clear hr hc
  generalize L.any (wrB m) = b at *
  generalize L.length = ln at *
  go_enter Tryd.func34, Tryd.ntmps34
  go_wp2_with fail
  (with_reducible refine h1.out.mono ?_)
  rintro e w' ⟨r, rfl, hr, hb⟩
  replace hb := hidden hb
  clear h1
  go_wp2
  go_ret
  exact ⟨rfl, hb.out⟩
set_option maxHeartbeats 1600000 in
theorem hasCaps_any (va : Option Addr) (vc : Nat) (C : List Int) (w : World) (hr : Reads .i64 w (.slice va C.length vc) C) (hl : C.length ≤ 1000000) :
    Calls Tryd.prog 35 #[.slice va C.length vc, .func (.func 33) #[] #[]] w fun e w' => e = .returned (.bool (C.any wcB)) ∧ Below w.heap.size w w' := by
  have h1 := hidden (indexCaps_any va vc C w hr hl)
  unfold IxAt at h1
  clear hr
  generalize C.any wcB = b at *
  generalize C.length = ln at *
  go_enter Tryd.func35, Tryd.ntmps35
  go_wp2_with fail
  (with_reducible refine h1.out.mono ?_)
  rintro e w' ⟨r, rfl, hr, hb⟩
  replace hb := hidden hb
  clear h1
  go_wp2
  go_ret
  exact ⟨rfl, hb.out⟩
set_option maxRecDepth 100000 in
set_option maxHeartbeats 6400000 in
theorem ltValid_any (A : Nat → Addr) (lv cv : Value) (L : List Lt) (C : List Int) (n : Int) (w : World) (h : PbR w lv cv L C) (hE : ErrsOn [2, 4] w A) :
    Calls Tryd.prog 17 #[pbA lv cv n] w fun e w' => e = .returned (errOf A (pbC L C n)) ∧ Below w.heap.size w w' := by
  have hmf : ∀ (fn : Fn) (first cap : Array Value) (w : World), (Instr.makeFunc fn first cap).run Tryd.prog w = .ok (.func fn first cap) w := fun _ _ _ _ => rfl
  obtain ⟨la, lc, rfl⟩ := row_slice h.lots
  obtain ⟨ca, cc, rfl⟩ := reads_slice h.caps
  have hb := hidden (below_pb w pbTy (.slice la L.length lc) (.slice ca C.length cc) n)
  have hR : (w.alloc (pbO pbTy (.slice la L.length lc) (.slice ca C.length cc) n)).cell? ⟨3, 0, none⟩ = some (errAt (A 2)) := (hE.below hb.out (Nat.le_refl _)) 2 (by simp)
  have hM : (w.alloc (pbO pbTy (.slice la L.length lc) (.slice ca C.length cc) n)).cell? ⟨2, 0, none⟩ = some (errAt (A 4)) := (hE.below hb.out (Nat.le_refl _)) 4 (by simp)
  have hp := pbAt_new w pbTy (.slice la L.length lc) (.slice ca C.length cc) n
  have hw := mn_many L C
  have h1 := hidden (fun W => noCount_any (L.length : Int) W)
  have h2 := hidden (fun W => noCount_any (C.length : Int) W)
  have hlen := h.len
  by_cases hmany : manyOk L C
  · have hw' := hw.resolve_left (fun q => q.2 hmany)
    obtain ⟨t1, t2, _⟩ := hw'.resolve_left (fun q => q.2.2 hmany)
    have hr := hidden (h.below hb.out (Nat.le_refl _))
    have h3 := hidden (hasLots_any la lc L w.heap.size ca C.length cc _ hr.out.lots (by unfold manyOk at hmany; omega) hp.cells.2.1 hmany.2.2)
    have h4 := hidden (fun W hW => hasCaps_any ca cc C W (hr.out.caps.below (B := (w.alloc (pbO pbTy (.slice la L.length lc) (.slice ca C.length cc) n)).heap.size) hW (Nat.le_refl _)) (by unfold manyOk at hmany; omega))
    have h5 := hidden (fun W => ltOut_any n 1000000000000 W)
    rw [wcB_ou] at h5
    have hq : pbC L C n = if partsOk L C n then 0 else 103 := if_pos hmany
    have hk : (L.any (wrB C.length) = true ∧ pbC L C n = 103) ∨ (L.any (wrB C.length) = false ∧ C.any wcB = true ∧ pbC L C n = 103) ∨ (L.any (wrB C.length) = false ∧ C.any wcB = false ∧ wcB n = true ∧ pbC L C n = 103) ∨ (L.any (wrB C.length) = false ∧ C.any wcB = false ∧ wcB n = false ∧ pbC L C n = 0) := by
      rw [hq]
      rcases parts_ways L C n with ⟨k1, q⟩ | ⟨k1, k2, q⟩ | ⟨k1, k2, k3, q⟩ | ⟨k1, k2, k3, q⟩
      · exact .inl ⟨k1, if_neg q⟩
      · exact .inr (.inl ⟨k1, k2, if_neg q⟩)
      · exact .inr (.inr (.inl ⟨k1, k2, k3, if_neg q⟩))
      · exact .inr (.inr (.inr ⟨k1, k2, k3, if_pos q⟩))
    have hR2 := hidden (fun W (hW : Below (w.alloc (pbO pbTy (.slice la L.length lc) (.slice ca C.length cc) n)).heap.size (w.alloc (pbO pbTy (.slice la L.length lc) (.slice ca C.length cc) n)) W) => show W.cell? ⟨3, 0, none⟩ = some (errAt (A 2)) from by rw [World.cell?_of_block (w := (w.alloc (pbO pbTy (.slice la L.length lc) (.slice ca C.length cc) n))) (hW.block _ (World.block_lt_of_cell? _ _ hR))]; exact hR)
    have hpw := hidden (fun W hW => (hp.below (B := (w.alloc (pbO pbTy (.slice la L.length lc) (.slice ca C.length cc) n)).heap.size) (w' := W) hW (Nat.le_refl _)).cells)
    rw [t1] at h1
    rw [t2] at h2
    generalize pbC L C n = c at *
    generalize L.any (wrB C.length) = b1 at *
    generalize C.any wcB = b2 at *
    generalize wcB n = b3 at *
    have hmI : (L.length : Int) ≤ 8 ∧ (C.length : Int) ≤ 8 := by unfold manyOk at hmany; omega
    clear hw hw' hE hq h hR hM hp hmany
    rcases hk with ⟨k1, q⟩ | ⟨k1, k2, q⟩ | ⟨k1, k2, k3, q⟩ | ⟨k1, k2, k3, q⟩
    all_goals
      subst q
      subst k1
      try subst k2
      try subst k3
      go_enter Tryd.func17, Tryd.ntmps17
      go_wp2_with (first
        | (go_at_call 30; (with_reducible refine (h1.out _).mono ?_); rintro e w' ⟨rfl, rfl⟩)
        | (go_at_call 30; (with_reducible refine (h2.out _).mono ?_); rintro e w' ⟨rfl, rfl⟩)
        | (go_at_call 34; (with_reducible refine h3.out.mono ?_); rintro e w2 ⟨rfl, hb2⟩; have h4 := hidden (h4.out _ hb2); have hR5 := hR2.out _ hb2; have hp2 := hpw.out _ hb2; obtain ⟨c0, c1, c2⟩ := hp2; replace hb2 := hidden hb2)
        | (go_at_call 35; (with_reducible refine h4.out.mono ?_); rintro e w3 ⟨rfl, hb3⟩; replace hb3 := hidden (hb2.out.trans (hb3.mono hb2.out.size)); have hR5 := hR2.out _ hb3.out; have hp2 := hpw.out _ hb3.out; obtain ⟨c0, c1, c2⟩ := hp2)
        | (go_at_call 32; (with_reducible refine (h5.out _).mono ?_); rintro e w' ⟨rfl, rfl⟩))
      go_ret
      first
        | exact ⟨rfl, hb.out.trans (hb3.out.mono hb.out.size)⟩
        | exact ⟨rfl, hb.out.trans (hb2.out.mono hb.out.size)⟩
  · rw [pbC_many hmany]
    clear hE hp h
    rcases hw with ⟨t1, q⟩ | ⟨t1, t2, q⟩ | ⟨t1, t2, q⟩
    · rw [t1] at h1
      clear q hmany t1
      go_enter Tryd.func17, Tryd.ntmps17
      go_wp2_with (go_at_call 30; (with_reducible refine (h1.out _).mono ?_); rintro e w' ⟨rfl, rfl⟩)
      go_ret
      exact ⟨rfl, hb.out⟩
    · rw [t1] at h1
      rw [t2] at h2
      clear q hmany t1 t2
      go_enter Tryd.func17, Tryd.ntmps17
      go_wp2_with (first
        | (go_at_call 30; (with_reducible refine (h1.out _).mono ?_); rintro e w' ⟨rfl, rfl⟩)
        | (go_at_call 30; (with_reducible refine (h2.out _).mono ?_); rintro e w' ⟨rfl, rfl⟩))
      go_ret
      exact ⟨rfl, hb.out⟩
    · exact absurd q hmany
theorem errOf_pb {L : List Lt} {C : List Int} {n : Int} (A : Nat → Addr) (h : ¬ OkP L C n) : errOf A (pbC L C n) = errAt (A 2) ∨ errOf A (pbC L C n) = errAt (A 4) := by
  rcases pbC_ways L C n with q | q | q
  · exact absurd (pbC_iff.1 q) h
  · exact .inl (by rw [q]; rfl)
  · exact .inr (by rw [q]; rfl)
end Go.Proofs.YtmihpgccdknhfaaDoor
namespace Go.Proofs.YtmihpgccdknhfaaDoor
open Go.RowKit
set_option linter.unusedVariables false

theorem ltBox {w W : World} {x : Lt} (hb : Below (w.alloc (ltO x)).heap.size (w.alloc (ltO x)) W) : LotAt W w.heap.size 0 x := by
  have h : W.heap[w.heap.size]? = some (ltO x) := (hb.block _ (by simp)).trans (heap_alloc_new w _)
  refine ⟨?_, ?_, ?_, ?_⟩ <;> (rw [cell_of_row _ _ _ _ _ _ h]; rfl)
theorem errOf_103 (A : Nat → Addr) : errOf A 103 = errAt (A 2) := rfl
theorem errOf_105 (A : Nat → Addr) : errOf A 105 = errAt (A 4) := rfl
def tkPart (L : List Lt) (t : List Int) (k : Nat) : Prop := ∀ j, j < k → 0 ≤ t.getD j 0 ∧ t.getD j 0 ≤ (L.getD j ltZ).u
theorem tkPart_next {L : List Lt} {t : List Int} {k : Nat} (h : tkPart L t k) (hk : ouB (t.getD k 0) (L.getD k ltZ).u = false) : tkPart L t (k + 1) := fun j hj => by
  by_cases e : j = k
  · subst e
    unfold ouB at hk
    rw [decide_eq_false_iff_not] at hk
    omega
  · exact h j (by omega)
theorem good_out {L : List Lt} {C : List Int} {n : Int} {t : List Int} {k : Nat} (hl : k < L.length) (hk : ouB (t.getD k 0) (L.getD k ltZ).u = true) : goodB L C n t = false := goodB_no fun h => by
  have := h.2.2 k hl
  unfold ouB at hk
  rw [decide_eq_true_iff] at hk
  omega
abbrev MtS (w : World) (b o g : Nat) (x u : Int) (W : World) : Prop := W.cell? ⟨b, o, none⟩ = some (.int .i64 x) ∧ W.cell? ⟨g, 0, none⟩ = some (.int .i64 u) ∧ Below w.heap.size w W
theorem mtS_drew {w W : World} {b o g : Nat} {x u : Int} (h : MtS w b o g x u W) : MtS w b o g x u W.drew := ⟨h.1, h.2.1, h.2.2.drew⟩
def MtRel (L : List Lt) (t : List Int) (w0 : World) (i : Value) (w : World) : Prop := ∃ k : Nat, k ≤ L.length ∧ i = .int .i64 (k : Int) ∧ tkPart L t k ∧ Below w0.heap.size w0 w
set_option maxRecDepth 100000 in
set_option maxHeartbeats 6400000 in
theorem mayTake_any (A : Nat → Addr) (lv cv : Value) (L : List Lt) (C : List Int) (n : Int) (tv : Value) (t : List Int) (w : World) (h : PbR w lv cv L C) (hr : Reads .i64 w tv t) (hE : ErrsOn [2, 4] w A) :
    Calls Tryd.prog 43 #[pbA lv cv n, tv] w fun e w' => e = .returned (.bool (goodB L C n t)) ∧ Below w.heap.size w w' := by
  have hb0 := below_pb w pbTy lv cv n
  have hV := hidden (ltValid_any A lv cv L C n _ (h.below hb0 (Nat.le_refl _)) (hE.below hb0 (Nat.le_refl _)))
  have hpb := pbAt_new w pbTy lv cv n
  have hp := hidden (fun W (hW : Below (w.alloc (pbO pbTy lv cv n)).heap.size (w.alloc (pbO pbTy lv cv n)) W) => (hpb.below hW (Nat.le_refl _)).cells)
  obtain ⟨la, lc, rfl⟩ := row_slice h.lots
  obtain ⟨ca, cc, rfl⟩ := reads_slice h.caps
  obtain ⟨ta, tc, rfl⟩ := reads_slice hr
  have hx := hidden (fun k hk W (h2 : Below w.heap.size w W) => rowLt_at (h.lots.below ltV_len h2 (Nat.le_refl _)) k hk)
  have ht := hidden (fun k hk W (h2 : Below w.heap.size w W) => (hr.below h2 (Nat.le_refl _)).cell k hk)
  have hlen := h.len
  have hb := hidden hb0
  clear h hr hE hb0 hpb
  by_cases hok : OkP L C n
  · rw [pbC_ok hok, errOf_fine] at hV
    by_cases hl : t.length = L.length
    · have hlb : (((t.length : Nat) : Int) != (L.length : Int)) = false := by rw [hl]; simp
      have hG := hidden (fun (q : tkPart L t L.length) => goodB_yes hok (show TkOk L t from ⟨hl, q⟩))
      have hNo := hidden (fun k hk => @good_out L C n t k hk)
      replace hl := hidden hl
      clear hok
      go_enter Tryd.func43, Tryd.ntmps43
      go_wp2_with fail
      (with_reducible refine hV.out.mono ?_)
      rintro e w1 ⟨rfl, hb1⟩
      obtain ⟨c0, c1, c2⟩ := hp.out _ hb1
      have hb2 := hidden (hb.out.trans (hb1.mono hb.out.size))
      clear hV hb1 hp
      go_wp2_with fail
      go_loopw [21] (fun i wr => MtRel L t w i wr) (fun i _ => L.length - (RowKit.intOf i).toNat)
      case atStart => exact ⟨0, Nat.zero_le _, rfl, (fun j hj => by omega), hb2.out⟩
      case round =>
        clear hb2 c0 c1 c2
        obtain ⟨k, hk, rfl, htk, hb3⟩ := hrel
        by_cases hlt : k < L.length
        · obtain ⟨b, o, rfl, q0, q1, q2, q3⟩ := hx.out k hlt _ hb3
          have hlt2 : k < t.length := by rw [hl.out]; exact hlt
          have hlI : (k : Int) < (L.length : Int) := by omega
          have hlI2 : (k : Int) < (t.length : Int) := by omega
          have hbl := hidden (hb3.trans ((below_lt wr (L.getD k ltZ)).mono hb3.size))
          obtain ⟨tb, tof, rfl, ct⟩ := ht.out k hlt2 _ hbl.out
          have cu := (ltBox (Below.refl (wr.alloc (ltO (L.getD k ltZ))).heap.size (wr.alloc (ltO (L.getD k ltZ))))).1
          have hou := hidden (fun W => ltOut_any (t.getD k 0) (L.getD k ltZ).u W)
          cases hB : ouB (t.getD k 0) (L.getD k ltZ).u
          · have hN := hidden (tkPart_next htk hB)
            rw [hB] at hou
            generalize t.getD k 0 = x at *
            generalize L.getD k ltZ = y at *
            have hs0 := hidden (show MtS w tb (tof + k) wr.heap.size x y.u (wr.alloc (ltO y)) from ⟨ct, cu, hbl.out⟩)
            obtain ⟨u, v, c, g⟩ := y
            simp only at q0 q1 q2 q3 hou hs0
            clear ct cu hB htk hx ht hNo hb3 hbl
            go_wp2_with fail
            go_region_held3 (fun W => W.cell? ⟨tb, tof + k, none⟩ = some (.int .i64 x) ∧ W.cell? ⟨wr.heap.size, 0, none⟩ = some (.int .i64 u) ∧ Below w.heap.size w W)
              ((first | exact mtS_drew hs0.out | assumption))
              ((go_at_call 32; (with_reducible refine (hou.out _).mono ?_); rintro r w' ⟨rfl, rfl⟩))
            all_goals
              rename_i hh
              have hend := hidden hh.2.2
              clear hh hs0
              go_wp2
              go_roundw
              case rel => exact ⟨k + 1, hlt, by go_num, hN.out, hend.out⟩
              case measure => simp [RowKit.intOf]; omega
          · have hN := hidden (hNo.out k hlt hB)
            rw [hB] at hou
            generalize t.getD k 0 = x at *
            generalize L.getD k ltZ = y at *
            have hs0 := hidden (show MtS w tb (tof + k) wr.heap.size x y.u (wr.alloc (ltO y)) from ⟨ct, cu, hbl.out⟩)
            obtain ⟨u, v, c, g⟩ := y
            simp only at q0 q1 q2 q3 hou hs0
            clear ct cu hB htk hx ht hNo hb3 hbl
            go_wp2_with fail
            go_region_held3 (fun W => W.cell? ⟨tb, tof + k, none⟩ = some (.int .i64 x) ∧ W.cell? ⟨wr.heap.size, 0, none⟩ = some (.int .i64 u) ∧ Below w.heap.size w W)
              ((first | exact mtS_drew hs0.out | assumption))
              ((go_at_call 32; (with_reducible refine (hou.out _).mono ?_); rintro r w' ⟨rfl, rfl⟩))
            all_goals
              rename_i hh
              have hend := hidden hh.2.2
              clear hh hs0
              go_wp2
              go_ret
              exact ⟨ret_bool hN.out.symm, hend.out⟩
        · obtain rfl : k = L.length := by omega
          have hG2 := hidden (hG.out htk)
          replace hb3 := hidden hb3
          clear htk hG
          go_wp2
          go_ret
          exact ⟨ret_bool hG2.out.symm, hb3.out⟩
    · have hlb : (((t.length : Nat) : Int) != (L.length : Int)) = true := by rw [bne_iff_ne]; omega
      rw [goodB_no (fun q => hl q.2.1)]
      clear hok hl
      go_enter Tryd.func43, Tryd.ntmps43
      go_wp2_with fail
      (with_reducible refine hV.out.mono ?_)
      rintro e w1 ⟨rfl, hb1⟩
      obtain ⟨c0, c1, c2⟩ := hp.out _ hb1
      have hb2 := hidden (hb.out.trans (hb1.mono hb.out.size))
      clear hV hb1 hp
      go_wp2
      go_ret
      exact ⟨rfl, hb2.out⟩
  · rw [goodB_no (fun q => hok q.1)]
    have hw := pbC_ways L C n
    have hne : pbC L C n ≠ 0 := fun q => hok (pbC_iff.1 q)
    generalize pbC L C n = c at *
    clear hok hx ht
    rcases hw with q | rfl | rfl
    · exact absurd q hne
    · rw [errOf_103] at hV
      go_enter Tryd.func43, Tryd.ntmps43
      go_wp2_with fail
      (with_reducible refine hV.out.mono ?_)
      rintro e w1 ⟨rfl, hb1⟩
      have hb2 := hidden (hb.out.trans (hb1.mono hb.out.size))
      clear hV hb1 hp
      go_wp2
      go_ret
      exact ⟨rfl, hb2.out⟩
    · rw [errOf_105] at hV
      go_enter Tryd.func43, Tryd.ntmps43
      go_wp2_with fail
      (with_reducible refine hV.out.mono ?_)
      rintro e w1 ⟨rfl, hb1⟩
      have hb2 := hidden (hb.out.trans (hb1.mono hb.out.size))
      clear hV hb1 hp
      go_wp2
      go_ret
      exact ⟨rfl, hb2.out⟩
end Go.Proofs.YtmihpgccdknhfaaDoor
namespace Go.Proofs.YtmihpgccdknhfaaDoor
open Go.RowKit
set_option linter.unusedVariables false

/-- a row of numbers of 64 bits of whatever type. -/
def NumAt (T : TypeId) (w : World) (g : Nat) (l : List Int) : Prop := w.heap[g]? = some (.cells (l.map (Value.int .i64)).toArray T (0, 0))
theorem NumAt.cell {T : TypeId} {w : World} {g : Nat} {l : List Int} (h : NumAt T w g l) {i : Nat} (hi : i < l.length) : w.cell? ⟨g, i, none⟩ = some (.int .i64 (l.getD i 0)) := by
  rw [cell_of_row _ _ _ _ _ _ h, List.getElem?_toArray, List.getElem?_map, List.getD_eq_getElem?_getD, List.getElem?_eq_getElem hi]
  rfl
theorem NumAt.frozen {T : TypeId} {w : World} {g : Nat} {l : List Int} (h : NumAt T w g l) (i : Nat) : w.frozen? ⟨g, i, none⟩ = false := by
  have := h
  unfold NumAt at this
  simp [World.frozen?, this]
theorem NumAt.set {T : TypeId} {w : World} {g : Nat} {l : List Int} (h : NumAt T w g l) (i : Nat) (x : Int) : NumAt T (w.setCell ⟨g, i, none⟩ (.int .i64 x)) g (l.set i x) := by
  unfold NumAt
  rw [heap_setCell_row h]
  simp
theorem NumAt.lt {T : TypeId} {w : World} {g : Nat} {l : List Int} (h : NumAt T w g l) : g < w.heap.size := (Array.getElem?_eq_some_iff.1 h).1
theorem NumAt.below {T : TypeId} {w w' : World} {g : Nat} {l : List Int} {B : Nat} (h : NumAt T w g l) (hb : Below B w w') (hB : w.heap.size ≤ B) : NumAt T w' g l := by
  have hl := h.lt
  unfold NumAt at h ⊢
  rw [hb.block g (by omega)]
  exact h
theorem NumAt.drew {T : TypeId} {w : World} {g : Nat} {l : List Int} (h : NumAt T w g l) : NumAt T w.drew g l := h
theorem NumAt.reads {T : TypeId} {w : World} {g : Nat} {l : List Int} {n : Nat} (h : NumAt T w g l) (hn : l.length = n) (hm : n ≤ 1000000) : Reads .i64 w (.slice (some ⟨g, 0, none⟩) n n) l := reads_block h hn hm
theorem PbAt.put {w : World} {g b : Nat} {t : TypeId} {lv cv : Value} {n : Int} (h : PbAt w g t lv cv n) (hne : g ≠ b) (o : Nat) (v : Value) : PbAt (w.setCell ⟨b, o, none⟩ v) g t lv cv n := ⟨by rw [(Trd.setCell (S := (· = b)) w ⟨b, o, none⟩ v rfl).block g h.lt hne]; exact h.row⟩
def grp (L : List Lt) (t : List Int) (k : Nat) : List Int := (List.range 8).map fun j : Nat => gs L t (j : Int) k
theorem grp_len (L : List Lt) (t : List Int) (k : Nat) : (grp L t k).length = 8 := by simp [grp]
theorem grp_get (L : List Lt) (t : List Int) (k : Nat) {j : Nat} (hj : j < 8) : (grp L t k)[j]? = some (gs L t (j : Int) k) := by
  unfold grp
  rw [List.getElem?_map, List.getElem?_range hj]
  rfl
theorem grp_at (L : List Lt) (t : List Int) (k : Nat) {j : Nat} (hj : j < 8) : (grp L t k).getD j 0 = gs L t (j : Int) k := by rw [List.getD_eq_getElem?_getD, grp_get L t k hj]; rfl
theorem grp_start (L : List Lt) (t : List Int) : grp L t 0 = [0, 0, 0, 0, 0, 0, 0, 0] := rfl
theorem grp_next (L : List Lt) (t : List Int) (k g : Nat) (hg : g < 8) (hx : (L.getD k ltZ).g = (g : Int)) : (grp L t k).set g (gs L t (g : Int) k + t.getD k 0 * (L.getD k ltZ).v) = grp L t (k + 1) := by
  apply List.ext_getElem?
  intro j
  by_cases hj : j < 8
  · rw [grp_get L t (k + 1) hj]
    by_cases e : g = j
    · subst e
      rw [List.getElem?_set_self (by rw [grp_len]; exact hg)]
      show some _ = some (gs L t (g : Int) k + gsF L t (g : Int) k)
      unfold gsF
      rw [if_pos hx]
    · rw [List.getElem?_set_ne e, grp_get L t k hj]
      show some _ = some (gs L t (j : Int) k + gsF L t (j : Int) k)
      unfold gsF
      rw [if_neg (by omega), Int.add_zero]
  · rw [List.getElem?_eq_none (by rw [List.length_set, grp_len]; omega), List.getElem?_eq_none (by rw [grp_len]; omega)]
abbrev arTy : TypeId := 73
def WoRel1 (L : List Lt) (t : List Int) (gb : Nat) (p : Nat) (lv cv : Value) (n : Int) (w0 : World) (i : Value) (w : World) : Prop :=
  ∃ k : Nat, k ≤ L.length ∧ i = .int .i64 (k : Int) ∧ NumAt arTy w gb (grp L t k) ∧ PbAt w p pbTy lv cv n ∧ Below w0.heap.size w0 w
def WoRel2 (L : List Lt) (C t : List Int) (w0 : World) (s i : Value) (w : World) : Prop := ∃ k : Nat, k ≤ C.length ∧ i = .int .i64 (k : Int) ∧ s = .int .i64 (sumF (woF L C t) k) ∧ w0 = w
theorem gs_step (L : List Lt) (t : List Int) (g : Int) (k : Nat) (h : (L.getD k ltZ).g = g) : gs L t g (k + 1) = gs L t g k + t.getD k 0 * (L.getD k ltZ).v := by
  show gs L t g k + gsF L t g k = _
  unfold gsF
  rw [if_pos h]
theorem woF_ways (L : List Lt) (C t : List Int) (j : Nat) (hc : 0 ≤ C.getD j 0) : (C.getD j 0 = 0 ∧ woF L C t j = gs L t (j : Int) L.length) ∨ (C.getD j 0 ≠ 0 ∧ gs L t (j : Int) L.length ≤ C.getD j 0 ∧ woF L C t j = gs L t (j : Int) L.length) ∨ (C.getD j 0 ≠ 0 ∧ ¬ gs L t (j : Int) L.length ≤ C.getD j 0 ∧ woF L C t j = C.getD j 0) := by
  unfold woF capd
  split <;> omega
set_option maxRecDepth 100000 in
set_option maxHeartbeats 6400000 in
theorem ltWorth_any (lv cv : Value) (L : List Lt) (C : List Int) (n : Int) (tv : Value) (t : List Int) (w : World) (h : PbR w lv cv L C) (hr : Reads .i64 w tv t) (hok : OkP L C n) (htk : TkOk L t) :
    Calls Tryd.prog 46 #[pbA lv cv n, tv] w fun e w' => e = .returned (.int .i64 (wo L C t)) ∧ Below w.heap.size w w' := by
  have hb0 := below_pb w pbTy lv cv n
  have hpb := pbAt_new w pbTy lv cv n
  have hp := hidden (fun W (hW : Below (w.alloc (pbO pbTy lv cv n)).heap.size (w.alloc (pbO pbTy lv cv n)) W) => (hpb.below hW (Nat.le_refl _)))
  obtain ⟨la, lc, rfl⟩ := row_slice h.lots
  obtain ⟨ca, cc, rfl⟩ := reads_slice h.caps
  obtain ⟨ta, tc, rfl⟩ := reads_slice hr
  obtain ⟨c0, c1, c2⟩ := ((hpb.below ((Below.refl _ _).alloc (Nat.le_refl _) (.cells #[.int .i64 0, .int .i64 0, .int .i64 0, .int .i64 0, .int .i64 0, .int .i64 0, .int .i64 0, .int .i64 0] arTy)) (Nat.le_refl _))).cells
  have hx := hidden (fun k hk W (h2 : Below w.heap.size w W) => rowLt_at (h.lots.below ltV_len h2 (Nat.le_refl _)) k hk)
  have ht := hidden (fun k hk W (h2 : Below w.heap.size w W) => (hr.below h2 (Nat.le_refl _)).cell k hk)
  have hc := hidden (fun k hk W (h2 : Below w.heap.size w W) => (h.caps.below h2 (Nat.le_refl _)).cell k hk)
  have hlen := h.len
  have hb := hidden hb0
  have hl := hidden htk.1
  have hlb := hidden (fun k hk => hok.lot (k := k) hk)
  have hcb := hidden (fun k hk => hok.cap (k := k) hk)
  have htb := hidden (fun k hk => htk.2 k hk)
  have hgb := hidden (fun g k hk => gs_bd hok htk g (k := k) hk)
  have hwb := hidden (fun k hk => woS_bd hok htk (k := k) hk)
  have hwf := hidden (fun j hj => woF_bd hok htk (j := j) hj)
  have hC8 : C.length ≤ 8 := hok.1.2.2
  clear h hr hb0 hpb hok htk
  go_enter Tryd.func46, Tryd.ntmps46
  go_wp2_with fail
  have hst : NumAt arTy ((w.alloc (pbO pbTy (.slice la L.length lc) (.slice ca C.length cc) n)).alloc (.cells #[.int .i64 0, .int .i64 0, .int .i64 0, .int .i64 0, .int .i64 0, .int .i64 0, .int .i64 0, .int .i64 0] arTy)) (w.heap.size + 1) (grp L t 0) := by
    rw [grp_start]
    have := heap_alloc_new (w.alloc (pbO pbTy (.slice la L.length lc) (.slice ca C.length cc) n)) (.cells #[.int .i64 0, .int .i64 0, .int .i64 0, .int .i64 0, .int .i64 0, .int .i64 0, .int .i64 0, .int .i64 0] arTy)
    simpa [NumAt] using this
  have hpst := hp.out _ ((Below.refl _ _).alloc (Nat.le_refl _) (.cells #[.int .i64 0, .int .i64 0, .int .i64 0, .int .i64 0, .int .i64 0, .int .i64 0, .int .i64 0, .int .i64 0] arTy))
  have hbst := hidden (hb.out.alloc (by simp) (.cells #[.int .i64 0, .int .i64 0, .int .i64 0, .int .i64 0, .int .i64 0, .int .i64 0, .int .i64 0, .int .i64 0] arTy))
  replace hst := hidden hst
  replace hpst := hidden hpst
  go_loopw [14] (fun i wr => WoRel1 L t (w.heap.size + 1) w.heap.size (.slice la L.length lc) (.slice ca C.length cc) n w i wr) (fun i _ => L.length - (RowKit.intOf i).toNat)
  case atStart => exact ⟨0, Nat.zero_le _, rfl, hst.out, hpst.out, hbst.out⟩
  case round =>
    clear hst hpst hbst c0 c1 c2 hp hb
    obtain ⟨k, hk, rfl, hA, hP, hb3⟩ := hrel
    by_cases hlt : k < L.length
    · obtain ⟨b, o, rfl, q0, q1, q2, q3⟩ := hx.out k hlt _ hb3
      have hlt2 : k < t.length := by rw [hl.out]; exact hlt
      have hlI : (k : Int) < (L.length : Int) := by omega
      have hlI2 : (k : Int) < (t.length : Int) := by omega
      have hlo := hlb.out k hlt
      have hto := htb.out k hlt
      obtain ⟨g, hg⟩ : ∃ g : Nat, (L.getD k ltZ).g = (g : Int) := ⟨(L.getD k ltZ).g.toNat, by unfold ltOk at hlo; omega⟩
      have hg8 : g < 8 := by unfold ltOk at hlo; omega
      have hnx := hidden (grp_next L t k g hg8 hg)
      have hst := hidden (gs_step L t (g : Int) k hg)
      have hg1 := hgb.out (g : Int) k hk
      have hg2 := hgb.out (g : Int) (k + 1) hlt
      rw [hst.out] at hg2
      have hbl := hidden (hb3.trans ((below_lt wr (L.getD k ltZ)).mono hb3.size))
      obtain ⟨tb, tof, rfl, ct⟩ := ht.out k hlt2 _ hbl.out
      have hA2 := hA.below (below_lt wr (L.getD k ltZ)) (Nat.le_refl _)
      have hP2 := hidden (hP.below (below_lt wr (L.getD k ltZ)) (Nat.le_refl _))
      have cg := hA2.cell (i := g) (by rw [grp_len]; exact hg8)
      rw [grp_at L t k hg8] at cg
      have fg := hA2.frozen g
      have hA3 := hidden (hA2.set g (gs L t (g : Int) k + t.getD k 0 * (L.getD k ltZ).v))
      rw [hnx.out] at hA3
      have hlo2 := hlo.2.1
      have hlo1 := hlo.1
      have hpr := prod_bd (a := t.getD k 0) (A := 1000) (b := (L.getD k ltZ).v) (B := 1000000000) hto.1 (by omega) hlo2.1 hlo2.2
      obtain ⟨m, hm⟩ : ∃ m, m = t.getD k 0 * (L.getD k ltZ).v := ⟨_, rfl⟩
      rw [← hm] at hpr hg2 hA3
      have hwm : IntKind.i64.wrap (t.getD k 0 * (L.getD k ltZ).v) = m := by rw [← hm, IntKind.wrap_i64]; omega
      have hws : IntKind.i64.wrap (gs L t (g : Int) k + m) = gs L t (g : Int) k + m := by rw [IntKind.wrap_i64]; omega
      have hgw : ¬ tb = w.heap.size + 1 ∨ True := .inr trivial
      clear hnx hst hgb hlo hto hA hA2 hP hx ht hlo1 hlo2 hgw hc hcb hlb htb hwb hwf hm
      generalize gs L t (g : Int) k = G at *
      generalize t.getD k 0 = x at *
      generalize L.getD k ltZ = y at *
      obtain ⟨u, v, c, gg⟩ := y
      simp only at q0 q1 q2 q3 hg hwm hpr
      subst hg
      have hg8I : (g : Int) < 8 := by omega
      replace hb3 := hidden hb3
      have hbn := hidden ((hbl.out.setCell (show w.heap.size ≤ w.heap.size + 1 from Nat.le_succ _) (.int .i64 (G + m))).drew : Below w.heap.size w (((wr.alloc (ltO ⟨u, v, c, (g : Int)⟩)).setCell ⟨w.heap.size + 1, g, none⟩ (.int .i64 (G + m))).drew))
      go_wp2_with fail
      go_region
      all_goals
        go_wp2
        go_roundw
        case rel => exact ⟨k + 1, hlt, by go_num, hA3.out, ⟨(hP2.out.put (b := w.heap.size + 1) (by omega) g (.int .i64 (G + m))).row⟩, hbn.out⟩
        case measure => simp [RowKit.intOf]; omega
    · obtain rfl : k = L.length := by omega
      obtain ⟨wu, rfl⟩ : ∃ w3, w3 = wr := ⟨_, rfl⟩
      obtain ⟨c0, c1, c2⟩ := hP.cells
      have hcx := hidden (fun k hk => hc.out k hk wu hb3)
      have hb4 := hidden hb3
      clear hP hb3 hx ht hlb htb hc
      have hA2 := hidden hA
      clear hA
      go_wp2_with fail
      go_loopw [8, 36] (fun s i wr => WoRel2 L C t wu s i wr) (fun _ i _ => C.length - (RowKit.intOf i).toNat)
      case atStart => exact ⟨0, Nat.zero_le _, rfl, rfl, rfl⟩
      case round =>
        clear c0 c1 c2
        obtain ⟨k, hk, rfl, rfl, rfl⟩ := hrel
        by_cases hlt : k < C.length
        · obtain ⟨b, o, rfl, q0⟩ := hcx.out k hlt
          have hlI : (k : Int) < (C.length : Int) := by omega
          have hk8 : (k : Int) < 8 := by omega
          have cg := hA2.out.cell (i := k) (by rw [grp_len]; omega)
          rw [grp_at L t L.length (by omega)] at cg
          have hcap := hcb.out k hlt
          have hg1 := hgb.out (k : Int) L.length (Nat.le_refl _)
          have hw1 := hwb.out k hk
          have hw2 := hwf.out k hlt
          have hways := woF_ways L C t k hcap.1
          have hnx := hidden (show sumF (woF L C t) (k + 1) = sumF (woF L C t) k + woF L C t k from rfl)
          have hcap2 := hcap.2
          have hcap1 := hcap.1
          clear hcap hcb hgb hwb hwf hcx hA2
          generalize gs L t (k : Int) L.length = G at *
          generalize C.getD k 0 = c at *
          generalize woF L C t k = f at *
          generalize sumF (woF L C t) k = S at *
          have hws : IntKind.i64.wrap (S + f) = S + f := by rw [IntKind.wrap_i64]; omega
          rcases hways with ⟨z1, z2⟩ | ⟨z1, z2, z3⟩ | ⟨z1, z2, z3⟩
          · subst z1
            subst z2
            go_wp2
            all_goals
              go_roundw
              case rel => exact ⟨k + 1, hlt, by go_num, by rw [hnx.out], rfl⟩
              case measure => simp [RowKit.intOf]; omega
          · have hz : (c == 0) = false := by rw [beq_eq_false_iff_ne]; exact z1
            subst z3
            go_wp2
            all_goals
              go_roundw
              case rel => exact ⟨k + 1, hlt, by go_num, by rw [hnx.out], rfl⟩
              case measure => simp [RowKit.intOf]; omega
          · have hz : (c == 0) = false := by rw [beq_eq_false_iff_ne]; exact z1
            subst z3
            go_wp2
            all_goals
              go_roundw
              case rel => exact ⟨k + 1, hlt, by go_num, by rw [hnx.out], rfl⟩
              case measure => simp [RowKit.intOf]; omega
        · obtain rfl : k = C.length := by omega
          go_wp2
          go_ret
          exact ⟨rfl, hb4.out⟩
end Go.Proofs.YtmihpgccdknhfaaDoor
namespace Go.Proofs.YtmihpgccdknhfaaDoor
open Go.RowKit
set_option linter.unusedVariables false

set_option maxRecDepth 100000 in
set_option maxHeartbeats 6400000 in
theorem ltWorth2_any (A : Nat → Addr) (lv cv : Value) (L : List Lt) (C : List Int) (n : Int) (tv : Value) (t : List Int) (w : World) (h : PbR w lv cv L C) (hr : Reads .i64 w tv t) (hE : ErrsOn [2, 4] w A) :
    Calls Tryd.prog 26 #[pbA lv cv n, tv] w fun e w' => e = .returned (.tuple #[.int .i64 (woV L C n t), .bool (goodB L C n t)]) ∧ Below w.heap.size w w' := by
  have hb0 := below_pb w pbTy lv cv n
  have hpb := pbAt_new w pbTy lv cv n
  have hp := hidden (fun W (hW : Below (w.alloc (pbO pbTy lv cv n)).heap.size (w.alloc (pbO pbTy lv cv n)) W) => (hpb.below hW (Nat.le_refl _)).cells)
  have hM := hidden (mayTake_any A lv cv L C n tv t _ (h.below hb0 (Nat.le_refl _)) (hr.below hb0 (Nat.le_refl _)) (hE.below hb0 (Nat.le_refl _)))
  have hW := hidden (fun W (h2 : Below w.heap.size w W) => ltWorth_any lv cv L C n tv t W (h.below h2 (Nat.le_refl _)) (hr.below h2 (Nat.le_refl _)))
  have hb := hidden hb0
  obtain ⟨la, lc, rfl⟩ := row_slice h.lots
  obtain ⟨ca, cc, rfl⟩ := reads_slice h.caps
  obtain ⟨ta, tc, rfl⟩ := reads_slice hr
  clear h hr hE hb0 hpb
  unfold woV
  cases hB : goodB L C n t
  · rw [hB] at hM
    rw [if_neg (by decide)]
    clear hW hB
    go_enter Tryd.func26, Tryd.ntmps26
    go_wp2_with fail
    (with_reducible refine hM.out.mono ?_)
    rintro e w1 ⟨rfl, hb1⟩
    have hb2 := hidden (hb.out.trans (hb1.mono hb.out.size))
    clear hM hb1 hp
    go_wp2
    go_ret2
    exact ⟨rfl, hb2.out⟩
  · rw [hB] at hM
    rw [if_pos rfl]
    obtain ⟨hok, htk⟩ := goodB_iff.1 hB
    replace hW := hidden (fun W h2 => hW.out W h2 hok htk)
    clear hB hok htk
    go_enter Tryd.func26, Tryd.ntmps26
    go_wp2_with fail
    (with_reducible refine hM.out.mono ?_)
    rintro e w1 ⟨rfl, hb1⟩
    obtain ⟨c0, c1, c2⟩ := hp.out _ hb1
    have hb2 := hidden (hb.out.trans (hb1.mono hb.out.size))
    replace hW := hidden (hW.out _ hb2.out)
    clear hM hb1 hp
    go_wp2_with fail
    (with_reducible refine hW.out.mono ?_)
    rintro e w2 ⟨rfl, hb3⟩
    replace hb3 := hidden (hb2.out.trans (hb3.mono hb2.out.size))
    clear hW
    go_wp2
    go_ret2
    exact ⟨rfl, hb3.out⟩
def CoRel (L : List Lt) (t : List Int) (w0 : World) (s i : Value) (w : World) : Prop := ∃ k : Nat, k ≤ L.length ∧ i = .int .i64 (k : Int) ∧ s = .int .i64 (sumF (coF L t) k) ∧ Below w0.heap.size w0 w
set_option maxRecDepth 100000 in
set_option maxHeartbeats 6400000 in
theorem ltCost_any (A : Nat → Addr) (lv cv : Value) (L : List Lt) (C : List Int) (n : Int) (tv : Value) (t : List Int) (w : World) (h : PbR w lv cv L C) (hr : Reads .i64 w tv t) (hE : ErrsOn [2, 4] w A) :
    Calls Tryd.prog 21 #[pbA lv cv n, tv] w fun e w' => e = .returned (.tuple #[.int .i64 (coV L C n t), .bool (goodB L C n t)]) ∧ Below w.heap.size w w' := by
  have hb0 := below_pb w pbTy lv cv n
  have hpb := pbAt_new w pbTy lv cv n
  have hp := hidden (fun W (hW : Below (w.alloc (pbO pbTy lv cv n)).heap.size (w.alloc (pbO pbTy lv cv n)) W) => (hpb.below hW (Nat.le_refl _)).cells)
  have hM := hidden (mayTake_any A lv cv L C n tv t _ (h.below hb0 (Nat.le_refl _)) (hr.below hb0 (Nat.le_refl _)) (hE.below hb0 (Nat.le_refl _)))
  have hb := hidden hb0
  obtain ⟨la, lc, rfl⟩ := row_slice h.lots
  obtain ⟨ca, cc, rfl⟩ := reads_slice h.caps
  obtain ⟨ta, tc, rfl⟩ := reads_slice hr
  have hx := hidden (fun k hk W (h2 : Below w.heap.size w W) => rowLt_at (h.lots.below ltV_len h2 (Nat.le_refl _)) k hk)
  have ht := hidden (fun k hk W (h2 : Below w.heap.size w W) => (hr.below h2 (Nat.le_refl _)).cell k hk)
  have hlen := h.len
  clear h hr hE hb0 hpb
  unfold coV
  cases hB : goodB L C n t
  · rw [hB] at hM
    rw [if_neg (by decide)]
    clear hB
    go_enter Tryd.func21, Tryd.ntmps21
    go_wp2_with fail
    (with_reducible refine hM.out.mono ?_)
    rintro e w1 ⟨rfl, hb1⟩
    have hb2 := hidden (hb.out.trans (hb1.mono hb.out.size))
    clear hM hb1 hp
    go_wp2
    go_ret2
    exact ⟨rfl, hb2.out⟩
  · rw [hB] at hM
    rw [if_pos rfl]
    obtain ⟨hok, htk⟩ := goodB_iff.1 hB
    have hcb := hidden (fun k hk => coS_bd hok htk (k := k) hk)
    have hcf := hidden (fun k hk => coF_bd hok htk (i := k) hk)
    have hl := hidden htk.1
    clear hB hok htk
    go_enter Tryd.func21, Tryd.ntmps21
    go_wp2_with fail
    (with_reducible refine hM.out.mono ?_)
    rintro e w1 ⟨rfl, hb1⟩
    obtain ⟨c0, c1, c2⟩ := hp.out _ hb1
    have hb2 := hidden (hb.out.trans (hb1.mono hb.out.size))
    clear hM hb1 hp
    go_wp2_with fail
    go_loopw [6, 16] (fun s i wr => CoRel L t w s i wr) (fun _ i _ => L.length - (RowKit.intOf i).toNat)
    case atStart => exact ⟨0, Nat.zero_le _, rfl, rfl, hb2.out⟩
    case round =>
      clear hb2 c0 c1 c2
      obtain ⟨k, hk, rfl, rfl, hb3⟩ := hrel
      by_cases hlt : k < L.length
      · obtain ⟨b, o, rfl, q0, q1, q2, q3⟩ := hx.out k hlt _ hb3
        have hlt2 : k < t.length := by rw [hl.out]; exact hlt
        have hlI : (k : Int) < (L.length : Int) := by omega
        have hlI2 : (k : Int) < (t.length : Int) := by omega
        have hbl := hidden (hb3.trans ((below_lt wr (L.getD k ltZ)).mono hb3.size))
        obtain ⟨tb, tof, rfl, ct⟩ := ht.out k hlt2 _ hbl.out
        have h1 := hcb.out k hk
        have h2 := hcf.out k hlt
        have hst := hidden (show sumF (coF L t) (k + 1) = sumF (coF L t) k + coF L t k from rfl)
        have hwm : IntKind.i64.wrap (t.getD k 0 * (L.getD k ltZ).c) = coF L t k := by
          rw [show t.getD k 0 * (L.getD k ltZ).c = coF L t k from rfl, IntKind.wrap_i64]; omega
        have hws : IntKind.i64.wrap (sumF (coF L t) k + coF L t k) = sumF (coF L t) k + coF L t k := by rw [IntKind.wrap_i64]; omega
        clear hcb hcf hx ht
        generalize coF L t k = f at *
        generalize sumF (coF L t) k = S at *
        generalize t.getD k 0 = x at *
        generalize L.getD k ltZ = y at *
        obtain ⟨u, v, c, gg⟩ := y
        simp only at q0 q1 q2 q3 hwm
        replace hb3 := hidden hb3
        go_wp2_with fail
        go_region
        all_goals
          go_wp2
          go_roundw
          case rel => exact ⟨k + 1, hlt, by go_num, by rw [hst.out], hbl.out.drew⟩
          case measure => simp [RowKit.intOf]; omega
      · obtain rfl : k = L.length := by omega
        replace hb3 := hidden hb3
        go_wp2
        go_ret2
        exact ⟨rfl, hb3.out⟩
set_option maxRecDepth 100000 in
set_option maxHeartbeats 6400000 in
theorem ltFits_any (A : Nat → Addr) (lv cv : Value) (L : List Lt) (C : List Int) (n : Int) (tv : Value) (t : List Int) (w : World) (h : PbR w lv cv L C) (hr : Reads .i64 w tv t) (hE : ErrsOn [2, 4] w A) :
    Calls Tryd.prog 22 #[pbA lv cv n, tv] w fun e w' => e = .returned (.bool (fiB L C n t)) ∧ Below w.heap.size w w' := by
  have hb0 := below_pb w pbTy lv cv n
  have hpb := pbAt_new w pbTy lv cv n
  have hp := hidden (fun W (hW : Below (w.alloc (pbO pbTy lv cv n)).heap.size (w.alloc (pbO pbTy lv cv n)) W) => (hpb.below hW (Nat.le_refl _)).cells)
  have hM := hidden (ltWorth2_any A lv cv L C n tv t _ (h.below hb0 (Nat.le_refl _)) (hr.below hb0 (Nat.le_refl _)) (hE.below hb0 (Nat.le_refl _)))
  have hb := hidden hb0
  obtain ⟨la, lc, rfl⟩ := row_slice h.lots
  obtain ⟨ca, cc, rfl⟩ := reads_slice h.caps
  obtain ⟨ta, tc, rfl⟩ := reads_slice hr
  clear h hr hE hb0 hpb
  unfold fiB
  generalize goodB L C n t = B at *
  generalize woV L C n t = x at *
  cases B
  all_goals
    go_enter Tryd.func22, Tryd.ntmps22
    go_wp2_with fail
    (with_reducible refine hM.out.mono ?_)
    rintro e w1 ⟨rfl, hb1⟩
    obtain ⟨c0, c1, c2⟩ := hp.out _ hb1
    have hb2 := hidden (hb.out.trans (hb1.mono hb.out.size))
    clear hM hb1 hp
    go_wp2
    go_ret
    exact ⟨ret_bool (by simp), hb2.out⟩
theorem mk_ints18 (n : Nat) (hn : n ≤ 1000000) (W : World) : (Instr.makeSlice 26 (.int .i64 n) (.int .i64 n)).run Tryd.prog W = .ok (.slice (some ⟨W.heap.size, 0, none⟩) n n) (W.alloc (.cells (Array.replicate n (.int .i64 0)) 3)) := by
  obtain ⟨i0, hi, hz0, hz1, hz2⟩ := info_parts (show (Tryd.prog.info? 3).map (fun i => (i.zero, i.size, i.bytes)) = some (some (.int .i64 0), 1, 8) by kernel_rfl)
  have := run_make (P := Tryd.prog) W 26 3 i0 _ Tryd.underlying26 hi hz0 .i64 .i64 n n (by omega) (by omega) (by rw [hz2]; omega) (by omega)
  rw [this, Int.toNat_natCast, hz1, Nat.mul_one]
  have e : madeCells (Value.int .i64 0).cells n = Array.replicate n (.int .i64 0) := by
    apply Array.ext'
    show (madeCells #[Value.int .i64 0] n).toList = _
    rw [toList_madeCells_one]
    simp
  rw [e]
theorem numAt_new (T : TypeId) (w : World) (n : Nat) : NumAt T (w.alloc (.cells (Array.replicate n (.int .i64 0)) T)) w.heap.size (List.replicate n 0) := by
  unfold NumAt
  rw [heap_alloc_new w _]
  simp
/-- a row that is filled from its beginning. -/
def fillL (F : List Int) (k : Nat) : List Int := F.take k ++ List.replicate (F.length - k) 0
theorem fillL_len (F : List Int) {k : Nat} (h : k ≤ F.length) : (fillL F k).length = F.length := by simp [fillL]; omega
theorem fillL_end (F : List Int) : fillL F F.length = F := by simp [fillL]
theorem fillL_set (F : List Int) (k : Nat) (h : k < F.length) : (fillL F k).set k (F.getD k 0) = fillL F (k + 1) := by
  unfold fillL
  have e : (F.take k).length = k := by simp; omega
  rw [List.set_append_right _ _ (by omega), e, Nat.sub_self, show F.length - k = (F.length - (k + 1)) + 1 by omega, List.replicate_succ, List.take_succ_eq_append_getElem h, List.getD_eq_getElem?_getD, List.getElem?_eq_getElem h, List.append_assoc]
  rfl
def MoRel (F : List Int) (gb p : Nat) (lv cv : Value) (n : Int) (w0 : World) (i : Value) (w : World) : Prop :=
  ∃ k : Nat, k ≤ F.length ∧ i = .int .i64 (k : Int) ∧ NumAt 3 w gb (fillL F k) ∧ PbAt w p pbTy lv cv n ∧ Below w0.heap.size w0 w
set_option maxRecDepth 100000 in
set_option maxHeartbeats 6400000 in
theorem ltMost_any (A : Nat → Addr) (lv cv : Value) (L : List Lt) (C : List Int) (n : Int) (w : World) (h : PbR w lv cv L C) (hl : L.length ≤ 1000) (hE : ErrsOn [2, 4] w A) :
    Calls Tryd.prog 36 #[pbA lv cv n] w fun e w' => e = .returned (.int .i64 (moV L C n)) ∧ Below w.heap.size w w' := by
  have hb0 := below_pb w pbTy lv cv n
  have hpb := pbAt_new w pbTy lv cv n
  have hbA := (Below.refl (w.alloc (pbO pbTy lv cv n)).heap.size (w.alloc (pbO pbTy lv cv n))).alloc (Nat.le_refl _) (.cells (Array.replicate L.length (.int .i64 0)) 3)
  have hp1 := hpb.below hbA (Nat.le_refl _)
  obtain ⟨c0, c1, c2⟩ := hpb.cells
  obtain ⟨d0, d1, d2⟩ := hp1.cells
  have hWo := hidden (fun W (h2 : Below w.heap.size w W) tv hr => ltWorth2_any A lv cv L C n tv (full L) W (h.below h2 (Nat.le_refl _)) hr (hE.below h2 (Nat.le_refl _)))
  obtain ⟨la, lc, rfl⟩ := row_slice h.lots
  obtain ⟨ca, cc, rfl⟩ := reads_slice h.caps
  have hx := hidden (fun k hk W (h2 : Below w.heap.size w W) => rowLt_at (h.lots.below ltV_len h2 (Nat.le_refl _)) k hk)
  have hlen := h.len
  have hmk := mk_ints18 L.length (by omega)
  have hn := hidden (numAt_new 3 (w.alloc (pbO pbTy (.slice la L.length lc) (.slice ca C.length cc) n)) L.length)
  have hfl := full_len L
  have hst : NumAt 3 ((w.alloc (pbO pbTy (.slice la L.length lc) (.slice ca C.length cc) n)).alloc (.cells (Array.replicate L.length (.int .i64 0)) 3)) (w.heap.size + 1) (fillL (full L) 0) := by
    unfold fillL
    rw [hfl]
    simpa using hn.out
  replace hst := hidden hst
  have hbst := hidden (hb0.trans (hbA.mono hb0.size))
  have hfu := hidden (fun k => full_at L k)
  have hfs := hidden (fun k h => fillL_set (full L) k h)
  have hfe := hidden (fillL_end (full L))
  have hfn := hidden (fun k h => fillL_len (full L) (k := k) h)
  replace hp1 := hidden hp1
  unfold moV
  generalize full L = F at *
  clear h hE hb0 hpb hbA hn
  go_enter Tryd.func36, Tryd.ntmps36
  go_wp2_with fail
  go_loopw [15] (fun i wr => MoRel F (w.heap.size + 1) w.heap.size (.slice la L.length lc) (.slice ca C.length cc) n w i wr) (fun i _ => F.length - (RowKit.intOf i).toNat)
  case atStart => exact ⟨0, Nat.zero_le _, rfl, hst.out, hp1.out, hbst.out⟩
  case round =>
    clear hst hbst hp1 c0 c1 c2 d0 d1 d2
    obtain ⟨k, hk, rfl, hA, hP, hb3⟩ := hrel
    by_cases hlt : k < F.length
    · obtain ⟨b, o, rfl, q0, q1, q2, q3⟩ := hx.out k (by omega) _ hb3
      have hlI : (k : Int) < (L.length : Int) := by omega
      have hbw := below_lt wr (L.getD k ltZ)
      have hbl := hidden (hb3.trans (hbw.mono hb3.size))
      have hA2 := hA.below hbw (Nat.le_refl _)
      have hP2 := hidden (hP.below hbw (Nat.le_refl _))
      have cg := hA2.cell (i := k) (by rw [hfn.out k hk]; exact hlt)
      have fg := hA2.frozen k
      have hA3 := hidden (hA2.set k (L.getD k ltZ).u)
      rw [← hfu.out k, hfs.out k hlt] at hA3
      have hfk := hidden (hfu.out k)
      generalize (fillL F k).getD k 0 = z at *
      clear hA hA2 hP hx hbw
      rw [hfk.out] at hA3
      generalize L.getD k ltZ = y at *
      obtain ⟨u, v, c, gg⟩ := y
      simp only at q0 q1 q2 q3
      replace hb3 := hidden hb3
      have hbn := hidden (hbl.out.setCell (show w.heap.size ≤ w.heap.size + 1 from Nat.le_succ _) (.int .i64 u) : Below w.heap.size w ((wr.alloc (ltO ⟨u, v, c, gg⟩)).setCell ⟨w.heap.size + 1, k, none⟩ (.int .i64 u)))
      go_wp2
      go_roundw
      case rel => exact ⟨k + 1, hlt, by go_num, hA3.out, ⟨(hP2.out.put (b := w.heap.size + 1) (by omega) k (.int .i64 u)).row⟩, hbn.out⟩
      case measure => simp [RowKit.intOf]; omega
    · obtain rfl : k = F.length := by omega
      rw [hfe.out] at hA
      have hR := hidden (hA.reads hfl (by omega))
      obtain ⟨c0, c1, c2⟩ := hP.cells
      have hW := hidden (hWo.out _ hb3 _ hR.out)
      replace hb3 := hidden hb3
      clear hA hP hWo
      go_wp2_with fail
      (with_reducible refine hW.out.mono ?_)
      rintro e w5 ⟨rfl, hb5⟩
      replace hb5 := hidden (hb3.out.trans (hb5.mono hb3.out.size))
      clear hW
      go_wp2
      go_ret
      exact ⟨rfl, hb5.out⟩
end Go.Proofs.YtmihpgccdknhfaaDoor
