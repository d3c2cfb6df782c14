/-
  A table of losses in memory; isScene, isMember, isAmount, Get.
-/
import Derived.Test.YtlanggdmdpjfbaaDoorStressMath
import Derived.Test.YtlanggdmdpjfbaaDoorSee
import Derived.Test.YtlanggdmdpjfbaaDoorBase
import Derived.BigQuiet
import Derived.Deep.RegionHeld3
namespace Go.Proofs.YtlanggdmdpjfbaaDoor
open Go.RowKit Go.Maps
set_option linter.unusedVariables false

abbrev celV (s : CelT) : Value := .agg #[.int .i64 s.1, .int .i64 s.2]
abbrev celO (s : CelT) : Obj := .cells #[.int .i64 s.1, .int .i64 s.2] 36
theorem below_cel (w : World) (s : CelT) : Below w.heap.size w (w.alloc (celO s)) := (Below.refl _ w).alloc (Nat.le_refl _) _
theorem cel_laid : laidOutB Tryd.prog = true := by kernel_rfl
theorem cel_key {c b : Int} (h1 : -9223372036854775808 ≤ c) (h2 : c ≤ 9223372036854775807) (h3 : -9223372036854775808 ≤ b) (h4 : b ≤ 9223372036854775807) :
    keyOf Tryd.prog 36 (.agg #[.int .i64 c, .int .i64 b]) = some (.string (keyBytes [.int .i64 c, .int .i64 b])) := by
  have w1 : (Lit.int .i64 c).wf = true := WalkArith.wf_i64 (by omega)
  have w2 : (Lit.int .i64 b).wf = true := WalkArith.wf_i64 (by omega)
  have hu := Tryd.underlying36
  have hi := Tryd.underlying3
  have c1 : Tryd.prog.cellsOf 3 = 1 := by kernel_rfl
  have c2 : Tryd.prog.cellsOf 36 = 2 := by kernel_rfl
  have hk : Tryd.prog.keyType 36 = true := by kernel_rfl
  obtain ⟨m, hm⟩ : ∃ m, Tryd.prog.types.size = m + 1 := Nat.exists_eq_succ_of_ne_zero (of_decide_eq_true (by kernel_rfl))
  unfold keyOf
  simp only [hu]
  rw [if_pos (by simp [hk, Value.formed, hu, c2]), hm]
  unfold Program.keyLits
  simp only [hu, Value.cells]
  rw [if_pos (by simp [c2])]
  simp [Program.keyLits, hi, c1, w1, w2]
theorem cel_law : WideMaps.KeyLaw Tryd.prog 36 := deep_law_laid cel_laid (m := 3) (by decide) (of_decide_eq_true (by kernel_rfl)) (by kernel_rfl) (by kernel_rfl)
theorem cel_enc : KeyEnc Tryd.prog 36 celV celIn where
  law := Keyed.of_law cel_law
  key := fun s hs => ⟨_, cel_key hs.1.1 hs.1.2 hs.2.1 hs.2.2⟩
  inj := fun a b h => by
    obtain ⟨a1, a2⟩ := a
    obtain ⟨b1, b2⟩ := b
    simp only [celV, Value.agg.injEq, Array.mk.injEq, List.cons.injEq, Value.int.injEq, true_and, and_true] at h
    rw [h.1, h.2]
theorem loss_zero (w : World) : (zeroValue 2).run Tryd.prog w = .ok (.int .i64 0) w := by kernel_rfl

/-- block g is a table of losses with this table, of at most n entries; all of it lies from block B on. -/
structure LoAt (w : World) (B g n : Nat) (T : LTab) : Prop where
  ex : ∃ m, w.heap[g]? = some (.cells #[.map m] 27 (0, 0)) ∧ KeyVar Tryd.prog 36 2 .i64 celV celIn w m n T ∧ ∀ b, m = some b → B ≤ b
  low : B ≤ g
  lo : LoT T
theorem loAt_new (w : World) : LoAt (w.alloc (.cells #[.map none] 27)) w.heap.size w.heap.size 0 noL :=
  ⟨⟨none, heap_alloc_new w _, rfl, fun b h => by cases h⟩, Nat.le_refl _, noL_lo⟩
/-- the blocks of a table. -/
def loB (w : World) (g : Nat) (k : Nat) : Prop := k = g ∨ w.cell? ⟨g, 0, none⟩ = some (.map (some k))
section
variable {w w' : World} {B g n : Nat} {T : LTab}
theorem LoAt.lt (h : LoAt w B g n T) : g < w.heap.size := by
  obtain ⟨m, hg, _⟩ := h.ex
  exact (Array.getElem?_eq_some_iff.1 hg).1
theorem LoAt.same (h : LoAt w B g n T) (hb : ∀ i, i < w.heap.size → w'.heap[i]? = w.heap[i]?) : LoAt w' B g n T := by
  obtain ⟨m, hg, hm, hB⟩ := h.ex
  exact ⟨⟨m, (hb _ h.lt).trans hg, hm.same fun b e => hb _ (hm.lt b e), hB⟩, h.low, h.lo⟩
theorem LoAt.below {N : Nat} (h : LoAt w B g n T) (hb : Below N w w') (hN : w.heap.size ≤ N) : LoAt w' B g n T := h.same fun i hi => hb.block i (by omega)
theorem LoAt.base {B' : Nat} (h : LoAt w B g n T) (hb : B' ≤ B) : LoAt w B' g n T := by
  obtain ⟨m, hg, hm, hB⟩ := h.ex
  exact ⟨⟨m, hg, hm, fun b e => Nat.le_trans hb (hB b e)⟩, Nat.le_trans hb h.low, h.lo⟩
theorem LoAt.mono {n' : Nat} (h : LoAt w B g n T) (hn : n ≤ n') : LoAt w B g n' T := by
  obtain ⟨m, hg, hm, hB⟩ := h.ex
  exact ⟨⟨m, hg, hm.mono hn, hB⟩, h.low, h.lo⟩
/-- where a call turns other blocks alone. -/
theorem LoAt.trd {S : Nat → Prop} (h : LoAt w B g n T) (ht : Trd S w w') (hS : ∀ k, loB w g k → ¬ S k) : LoAt w' B g n T := by
  obtain ⟨m, hg, hm, hB⟩ := h.ex
  refine ⟨⟨m, (ht.block _ h.lt (hS _ (.inl rfl))).trans hg, hm.same fun b e => ht.block _ (hm.lt b e) (hS _ (.inr ?_)), hB⟩, h.low, h.lo⟩
  rw [cell_of_row _ _ _ _ _ _ hg, e]
  rfl
theorem LoAt.blocks (h : LoAt w B g n T) {k : Nat} (hk : loB w g k) : k < w.heap.size ∧ B ≤ k ∧ (k = g ∨ ∃ es c, w.heap[k]? = some (.map es c)) := by
  obtain ⟨m, hg, hm, hB⟩ := h.ex
  rcases hk with rfl | hk
  · exact ⟨h.lt, h.low, .inl rfl⟩
  · rw [cell_of_row _ _ _ _ _ _ hg] at hk
    simp at hk
    subst hk
    exact ⟨hm.lt k rfl, hB k rfl, .inr (KeyTab.isMap hm)⟩
theorem LoAt.keeps (h : LoAt w B g n T) (ht : Trd (loB w g) w w') (hB : B ≤ w.heap.size) : Below B w w' := ht.below (fun k hk => (h.blocks hk).2.1) hB
theorem LoAt.ne_map {b : Nat} (h : LoAt w B g n T) {es : Array MapEntry} {c : Nat} (hb : w.heap[b]? = some (.map es c)) : g ≠ b := by
  rintro rfl
  obtain ⟨m, hg, _⟩ := h.ex
  rw [hg] at hb
  cases hb
theorem loB_below (h : LoAt w B g n T) (hb : Below w.heap.size w w') : loB w' g = loB w g := by
  funext k
  unfold loB
  rw [World.cell?_of_block (w := w) (hb.block _ h.lt)]
end

theorem isScene_ways (x : Int) : (decide (1 ≤ x) = false ∧ decide (scOk x) = false) ∨ (decide (1 ≤ x) = true ∧ decide (x ≤ 16) = false ∧ decide (scOk x) = false) ∨ (decide (1 ≤ x) = true ∧ decide (x ≤ 16) = true ∧ decide (scOk x) = true) := by
  simp only [decide_eq_true_iff, decide_eq_false_iff_not]
  unfold scOk
  omega
theorem isScene_any (x : Int) (w : World) : Calls Tryd.prog 20 #[.int .i64 x] w fun e w' => e = .returned (.bool (decide (scOk x))) ∧ w = w' := by
  rcases isScene_ways x with ⟨t1, q⟩ | ⟨t1, t2, q⟩ | ⟨t1, t2, q⟩
  all_goals
    replace q := hidden q
    go_enter Tryd.func20, Tryd.ntmps20
    go_wp2
    go_ret
    exact ⟨ret_bool q.out.symm, rfl⟩
def meOk (x : Int) : Prop := 1 ≤ x ∧ x ≤ 32
instance (x : Int) : Decidable (meOk x) := by unfold meOk; infer_instance
theorem isMember_ways (x : Int) : (decide (1 ≤ x) = false ∧ decide (meOk x) = false) ∨ (decide (1 ≤ x) = true ∧ decide (x ≤ 32) = false ∧ decide (meOk x) = false) ∨ (decide (1 ≤ x) = true ∧ decide (x ≤ 32) = true ∧ decide (meOk x) = true) := by
  simp only [decide_eq_true_iff, decide_eq_false_iff_not]
  unfold meOk
  omega
theorem isMember_any (x : Int) (w : World) : Calls Tryd.prog 21 #[.int .i64 x] w fun e w' => e = .returned (.bool (decide (meOk x))) ∧ w = w' := by
  rcases isMember_ways x with ⟨t1, q⟩ | ⟨t1, t2, q⟩ | ⟨t1, t2, q⟩
  all_goals
    replace q := hidden q
    go_enter Tryd.func21, Tryd.ntmps21
    go_wp2
    go_ret
    exact ⟨ret_bool q.out.symm, rfl⟩
theorem amOk_ways (x : Int) : (decide (0 ≤ x) = false ∧ decide (amOk x) = false) ∨ (decide (0 ≤ x) = true ∧ decide (x ≤ 1000000000000000) = false ∧ decide (amOk x) = false) ∨ (decide (0 ≤ x) = true ∧ decide (x ≤ 1000000000000000) = true ∧ decide (amOk x) = true) := by
  simp only [decide_eq_true_iff, decide_eq_false_iff_not]
  unfold amOk
  omega
theorem isAmount_any (x : Int) (w : World) : Calls Tryd.prog 22 #[.int .i64 x] w fun e w' => e = .returned (.bool (decide (amOk x))) ∧ w = w' := by
  rcases amOk_ways x with ⟨t1, q⟩ | ⟨t1, t2, q⟩ | ⟨t1, t2, q⟩
  all_goals
    replace q := hidden q
    go_enter Tryd.func22, Tryd.ntmps22
    go_wp2
    go_ret
    exact ⟨ret_bool q.out.symm, rfl⟩
theorem celOk_iff (s : CelT) : celOk s ↔ scOk s.1 ∧ meOk s.2 := Iff.rfl
/-- what is read in Get: the map's variable, the cell's own two, what is found. -/
abbrev LGetS (w0 : World) (g k n : Nat) (m : Option Nat) (T : LTab) (c b v : Int) (W : World) : Prop :=
  (W.cell? ⟨g, 0, none⟩ = some (.map m) ∧ W.cell? ⟨k, 0, none⟩ = some (.int .i64 c) ∧ W.cell? ⟨k, 1, none⟩ = some (.int .i64 b)) ∧
  (Instr.lookup 25 (.map m) (.agg #[.int .i64 c, .int .i64 b]) false).run Tryd.prog W = .ok (.int .i64 v) W ∧
  KeyVar Tryd.prog 36 2 .i64 celV celIn W m n T ∧ Below w0.heap.size w0 W
theorem lgetS_drew {w0 W : World} {g k n : Nat} {m : Option Nat} {T : LTab} {c b v : Int} (hs : celIn (c, b)) (hv : v = (T (c, b)).getD 0) (h : LGetS w0 g k n m T c b v W) : LGetS w0 g k n m T c b v W.drew := by
  obtain ⟨h1, _, h3, h4⟩ := h
  have h5 : KeyVar Tryd.prog 36 2 .i64 celV celIn W.drew m n T := h3.same fun _ _ => rfl
  refine ⟨h1, ?_, h5, h4.drew⟩
  rw [hv]
  exact h5.look cel_enc Tryd.underlying25 Tryd.underlying2 (loss_zero _) (c, b) hs
set_option maxHeartbeats 1600000 in
theorem loGet_any (w : World) (B g n : Nat) (T : LTab) (h : LoAt w B g n T) (s : CelT) (hs : celIn s) : Calls Tryd.prog 42 #[.pointer (some ⟨g, 0, none⟩), celV s] w fun e w' => e = .returned (.int .i64 (getL T s)) ∧ Below w.heap.size w w' := by
  obtain ⟨c, b⟩ := s
  obtain ⟨m, hg, hm, _⟩ := (h.below (below_cel w (c, b)) (Nat.le_refl _)).ex
  have hh := heap_alloc_new w (celO (c, b))
  have s0 := hidden (show LGetS w g w.heap.size n m T c b (getL T (c, b)) (w.alloc (celO (c, b))) from
    ⟨⟨by rw [cell_of_row _ _ _ _ _ _ hg]; rfl, by rw [cell_of_row _ _ _ _ _ _ hh]; rfl, by rw [cell_of_row _ _ _ _ _ _ hh]; rfl⟩, hm.look cel_enc Tryd.underlying25 Tryd.underlying2 (loss_zero _) (c, b) hs, hm, below_cel w (c, b)⟩)
  have hd := hidden (fun W (h : LGetS w g w.heap.size n m T c b (getL T (c, b)) W) => (show LGetS w g w.heap.size n m T c b (getL T (c, b)) W.drew from lgetS_drew hs rfl h))
  generalize getL T (c, b) = v at *
  clear h hg hm hs hh
  go_enter Tryd.func42, Tryd.ntmps42
  go_wp2_with fail
  go_region_held3 (fun W => (W.cell? ⟨g, 0, none⟩ = some (.map m) ∧ W.cell? ⟨w.heap.size, 0, none⟩ = some (.int .i64 c) ∧ W.cell? ⟨w.heap.size, 1, none⟩ = some (.int .i64 b)) ∧
      (Instr.lookup 25 (.map m) (.agg #[.int .i64 c, .int .i64 b]) false).run Tryd.prog W = .ok (.int .i64 v) W ∧
      KeyVar Tryd.prog 36 2 .i64 celV celIn W m n T ∧ Below w.heap.size w W)
    ((first | exact hd.out _ s0.out | exact hd.out _ (by assumption)))
    (fail)
  go_wp2
  go_ret
  exact ⟨rfl, (hd.out _ s0.out).2.2.2⟩
end Go.Proofs.YtlanggdmdpjfbaaDoor
