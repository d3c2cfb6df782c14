/-
  Holdings in memory; isSpot, isQty, Get.
-/
import Derived.Test.YteinajoiambigaaDoorHoldMath
import Derived.Test.YteinajoiambigaaDoorErr
import Derived.Test.YteinajoiambigaaDoorMem
import Derived.BigQuiet
import Derived.Deep.RegionHeld3
namespace Go.Proofs.YteinajoiambigaaDoor
open Go.RowKit Go.Maps
set_option linter.unusedVariables false

abbrev sptV (s : SpotT) : Value := .agg #[.int .i64 s.1, .int .i64 s.2]
abbrev sptO (s : SpotT) : Obj := .cells #[.int .i64 s.1, .int .i64 s.2] 31
theorem below_spt (w : World) (s : SpotT) : Below w.heap.size w (w.alloc (sptO s)) := (Below.refl _ w).alloc (Nat.le_refl _) _
theorem spot_laid : laidOutB Tryd.prog = true := by kernel_rfl
theorem spot_key {c b : Int} (h1 : -9223372036854775808 ≤ c) (h2 : c ≤ 9223372036854775807) (h3 : -9223372036854775808 ≤ b) (h4 : b ≤ 9223372036854775807) :
    keyOf Tryd.prog 31 (.agg #[.int .i64 c, .int .i64 b]) = some (.string (keyBytes [.int .i64 c, .int .i64 b])) := by
  have w1 : (Lit.int .i64 c).wf = true := WalkArith.wf_i64 (by omega)
  have w2 : (Lit.int .i64 b).wf = true := WalkArith.wf_i64 (by omega)
  have hu := Tryd.underlying31
  have hi := Tryd.underlying3
  have c1 : Tryd.prog.cellsOf 3 = 1 := by kernel_rfl
  have c2 : Tryd.prog.cellsOf 31 = 2 := by kernel_rfl
  have hk : Tryd.prog.keyType 31 = true := by kernel_rfl
  obtain ⟨m, hm⟩ : ∃ m, Tryd.prog.types.size = m + 1 := Nat.exists_eq_succ_of_ne_zero (of_decide_eq_true (by kernel_rfl))
  unfold keyOf
  simp only [hu]
  rw [if_pos (by simp [hk, Value.formed, hu, c2]), hm]
  unfold Program.keyLits
  simp only [hu, Value.cells]
  rw [if_pos (by simp [c2])]
  simp [Program.keyLits, hi, c1, w1, w2]
theorem spot_law : WideMaps.KeyLaw Tryd.prog 31 := deep_law_laid spot_laid (m := 3) (by decide) (of_decide_eq_true (by kernel_rfl)) (by kernel_rfl) (by kernel_rfl)
theorem spot_enc : KeyEnc Tryd.prog 31 sptV spIn where
  law := Keyed.of_law spot_law
  key := fun s hs => ⟨_, spot_key hs.1.1 hs.1.2 hs.2.1 hs.2.2⟩
  inj := fun a b h => by
    obtain ⟨a1, a2⟩ := a
    obtain ⟨b1, b2⟩ := b
    simp only [sptV, Value.agg.injEq, Array.mk.injEq, List.cons.injEq, Value.int.injEq, true_and, and_true] at h
    rw [h.1, h.2]
theorem hold_zero (w : World) : (zeroValue 2).run Tryd.prog w = .ok (.int .i64 0) w := by kernel_rfl

/-- block g is holdings with this table, of at most n entries; all of it lies from block B on. -/
structure HoAt (w : World) (B g n : Nat) (T : HTab) : Prop where
  ex : ∃ m, w.heap[g]? = some (.cells #[.map m] 27 (0, 0)) ∧ KeyVar Tryd.prog 31 2 .i64 sptV spIn w m n T ∧ ∀ b, m = some b → B ≤ b
  low : B ≤ g
  ho : HoT T
theorem hoAt_new (w : World) : HoAt (w.alloc (.cells #[.map none] 27)) w.heap.size w.heap.size 0 noH :=
  ⟨⟨none, heap_alloc_new w _, rfl, fun b h => by cases h⟩, Nat.le_refl _, noH_ho⟩
/-- the blocks of holdings. -/
def hoB (w : World) (g : Nat) (k : Nat) : Prop := k = g ∨ w.cell? ⟨g, 0, none⟩ = some (.map (some k))
section
variable {w w' : World} {B g n : Nat} {T : HTab}
theorem HoAt.lt (h : HoAt w B g n T) : g < w.heap.size := by
  obtain ⟨m, hg, _⟩ := h.ex
  exact (Array.getElem?_eq_some_iff.1 hg).1
theorem HoAt.same (h : HoAt w B g n T) (hb : ∀ i, i < w.heap.size → w'.heap[i]? = w.heap[i]?) : HoAt w' B g n T := by
  obtain ⟨m, hg, hm, hB⟩ := h.ex
  exact ⟨⟨m, (hb _ h.lt).trans hg, hm.same fun b e => hb _ (hm.lt b e), hB⟩, h.low, h.ho⟩
theorem HoAt.below {N : Nat} (h : HoAt w B g n T) (hb : Below N w w') (hN : w.heap.size ≤ N) : HoAt w' B g n T := h.same fun i hi => hb.block i (by omega)
theorem HoAt.base {B' : Nat} (h : HoAt w B g n T) (hb : B' ≤ B) : HoAt w B' g n T := by
  obtain ⟨m, hg, hm, hB⟩ := h.ex
  exact ⟨⟨m, hg, hm, fun b e => Nat.le_trans hb (hB b e)⟩, Nat.le_trans hb h.low, h.ho⟩
theorem HoAt.mono {n' : Nat} (h : HoAt w B g n T) (hn : n ≤ n') : HoAt w B g n' T := by
  obtain ⟨m, hg, hm, hB⟩ := h.ex
  exact ⟨⟨m, hg, hm.mono hn, hB⟩, h.low, h.ho⟩
/-- where a call turns other blocks alone. -/
theorem HoAt.trd {S : Nat → Prop} (h : HoAt w B g n T) (ht : Trd S w w') (hS : ∀ k, hoB w g k → ¬ S k) : HoAt w' B g n T := by
  obtain ⟨m, hg, hm, hB⟩ := h.ex
  refine ⟨⟨m, (ht.block _ h.lt (hS _ (.inl rfl))).trans hg, hm.same fun b e => ht.block _ (hm.lt b e) (hS _ (.inr ?_)), hB⟩, h.low, h.ho⟩
  rw [cell_of_row _ _ _ _ _ _ hg, e]
  rfl
theorem HoAt.blocks (h : HoAt w B g n T) {k : Nat} (hk : hoB w g k) : k < w.heap.size ∧ B ≤ k ∧ (k = g ∨ ∃ es c, w.heap[k]? = some (.map es c)) := by
  obtain ⟨m, hg, hm, hB⟩ := h.ex
  rcases hk with rfl | hk
  · exact ⟨h.lt, h.low, .inl rfl⟩
  · rw [cell_of_row _ _ _ _ _ _ hg] at hk
    simp at hk
    subst hk
    exact ⟨hm.lt k rfl, hB k rfl, .inr (KeyTab.isMap hm)⟩
theorem HoAt.keeps (h : HoAt w B g n T) (ht : Trd (hoB w g) w w') (hB : B ≤ w.heap.size) : Below B w w' := ht.below (fun k hk => (h.blocks hk).2.1) hB
theorem HoAt.ne_map {b : Nat} (h : HoAt w B g n T) {es : Array MapEntry} {c : Nat} (hb : w.heap[b]? = some (.map es c)) : g ≠ b := by
  rintro rfl
  obtain ⟨m, hg, _⟩ := h.ex
  rw [hg] at hb
  cases hb
theorem hoB_below (h : HoAt w B g n T) (hb : Below w.heap.size w w') : hoB w' g = hoB w g := by
  funext k
  unfold hoB
  rw [World.cell?_of_block (w := w) (hb.block _ h.lt)]
end

theorem isSpot_ways (s : SpotT) : (decide (1 ≤ s.1) = false ∧ decide (spOk s) = false) ∨ (decide (1 ≤ s.1) = true ∧ decide (s.1 ≤ 32) = false ∧ decide (spOk s) = false) ∨ (decide (1 ≤ s.1) = true ∧ decide (s.1 ≤ 32) = true ∧ decide (1 ≤ s.2) = false ∧ decide (spOk s) = false) ∨
    (decide (1 ≤ s.1) = true ∧ decide (s.1 ≤ 32) = true ∧ decide (1 ≤ s.2) = true ∧ decide (s.2 ≤ 32) = false ∧ decide (spOk s) = false) ∨ (decide (1 ≤ s.1) = true ∧ decide (s.1 ≤ 32) = true ∧ decide (1 ≤ s.2) = true ∧ decide (s.2 ≤ 32) = true ∧ decide (spOk s) = true) := by
  simp only [decide_eq_true_iff, decide_eq_false_iff_not]
  unfold spOk
  omega
theorem isSpot_any (s : SpotT) (w : World) : Calls Tryd.prog 14 #[sptV s] w fun e w' => e = .returned (.bool (decide (spOk s))) ∧ Below w.heap.size w w' := by
  have hb := hidden (below_spt w s)
  have hw := isSpot_ways s
  generalize hv : decide (spOk s) = v at *
  clear hv
  obtain ⟨c, b⟩ := s
  rcases hw with ⟨t1, q⟩ | ⟨t1, t2, q⟩ | ⟨t1, t2, t3, q⟩ | ⟨t1, t2, t3, t4, q⟩ | ⟨t1, t2, t3, t4, q⟩
  all_goals
    subst q
    go_enter Tryd.func14, Tryd.ntmps14
    go_wp2
    go_ret
    exact ⟨rfl, hb.out⟩
theorem qtOk_ways (x : Int) : (decide (1 ≤ x) = false ∧ decide (qtOk x) = false) ∨ (decide (1 ≤ x) = true ∧ decide (x ≤ 1000000000000) = false ∧ decide (qtOk x) = false) ∨ (decide (1 ≤ x) = true ∧ decide (x ≤ 1000000000000) = true ∧ decide (qtOk x) = true) := by
  simp only [decide_eq_true_iff, decide_eq_false_iff_not]
  unfold qtOk
  omega
theorem isQty_any (x : Int) (w : World) : Calls Tryd.prog 15 #[.int .i64 x] w fun e w' => e = .returned (.bool (decide (qtOk x))) ∧ w = w' := by
  rcases qtOk_ways x with ⟨t1, q⟩ | ⟨t1, t2, q⟩ | ⟨t1, t2, q⟩
  all_goals
    replace q := hidden q
    go_enter Tryd.func15, Tryd.ntmps15
    go_wp2
    go_ret
    exact ⟨ret_bool q.out.symm, rfl⟩
/-- what is read in Get: the map's variable, the spot's cells, what is found. -/
abbrev HGetS (w0 : World) (g k n : Nat) (m : Option Nat) (T : HTab) (c b v : Int) (W : World) : Prop :=
  (W.cell? ⟨g, 0, none⟩ = some (.map m) ∧ W.cell? ⟨k, 0, none⟩ = some (.int .i64 c) ∧ W.cell? ⟨k, 1, none⟩ = some (.int .i64 b)) ∧
  (Instr.lookup 25 (.map m) (.agg #[.int .i64 c, .int .i64 b]) false).run Tryd.prog W = .ok (.int .i64 v) W ∧
  KeyVar Tryd.prog 31 2 .i64 sptV spIn W m n T ∧ Below w0.heap.size w0 W
theorem hgetS_drew {w0 W : World} {g k n : Nat} {m : Option Nat} {T : HTab} {c b v : Int} (hs : spIn (c, b)) (hv : v = (T (c, b)).getD 0) (h : HGetS w0 g k n m T c b v W) : HGetS w0 g k n m T c b v W.drew := by
  obtain ⟨h1, _, h3, h4⟩ := h
  have h5 : KeyVar Tryd.prog 31 2 .i64 sptV spIn W.drew m n T := h3.same fun _ _ => rfl
  refine ⟨h1, ?_, h5, h4.drew⟩
  rw [hv]
  exact h5.look spot_enc Tryd.underlying25 Tryd.underlying2 (hold_zero _) (c, b) hs
set_option maxHeartbeats 1600000 in
theorem hoGet_any (w : World) (B g n : Nat) (T : HTab) (h : HoAt w B g n T) (s : SpotT) (hs : spIn s) : Calls Tryd.prog 10 #[.pointer (some ⟨g, 0, none⟩), sptV s] w fun e w' => e = .returned (.int .i64 (getQ T s)) ∧ Below w.heap.size w w' := by
  obtain ⟨c, b⟩ := s
  obtain ⟨m, hg, hm, _⟩ := (h.below (below_spt w (c, b)) (Nat.le_refl _)).ex
  have hh := heap_alloc_new w (sptO (c, b))
  have s0 := hidden (show HGetS w g w.heap.size n m T c b (getQ T (c, b)) (w.alloc (sptO (c, b))) from
    ⟨⟨by rw [cell_of_row _ _ _ _ _ _ hg]; rfl, by rw [cell_of_row _ _ _ _ _ _ hh]; rfl, by rw [cell_of_row _ _ _ _ _ _ hh]; rfl⟩, hm.look spot_enc Tryd.underlying25 Tryd.underlying2 (hold_zero _) (c, b) hs, hm, below_spt w (c, b)⟩)
  have hd := hidden (fun W (h : HGetS w g w.heap.size n m T c b (getQ T (c, b)) W) => (show HGetS w g w.heap.size n m T c b (getQ T (c, b)) W.drew from hgetS_drew hs rfl h))
  generalize getQ T (c, b) = v at *
  clear h hg hm hs hh
  go_enter Tryd.func10, Tryd.ntmps10
  go_wp2_with fail
  go_region_held3 (fun W => (W.cell? ⟨g, 0, none⟩ = some (.map m) ∧ W.cell? ⟨w.heap.size, 0, none⟩ = some (.int .i64 c) ∧ W.cell? ⟨w.heap.size, 1, none⟩ = some (.int .i64 b)) ∧
      (Instr.lookup 25 (.map m) (.agg #[.int .i64 c, .int .i64 b]) false).run Tryd.prog W = .ok (.int .i64 v) W ∧
      KeyVar Tryd.prog 31 2 .i64 sptV spIn W m n T ∧ Below w.heap.size w W)
    ((first | exact hd.out _ s0.out | exact hd.out _ (by assumption)))
    (fail)
  go_wp2
  go_ret
  exact ⟨rfl, (hd.out _ s0.out).2.2.2⟩
end Go.Proofs.YteinajoiambigaaDoor
