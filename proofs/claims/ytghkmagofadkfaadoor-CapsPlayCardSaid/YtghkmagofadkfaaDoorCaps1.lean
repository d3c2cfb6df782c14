/-
  Limits in memory; Get, capped; what a limit's kind is of; a group and its limit; isLine.
-/
import Derived.Test.YtghkmagofadkfaaDoorCapsMath
import Derived.Test.YtghkmagofadkfaaDoorErr
import Derived.Test.YtghkmagofadkfaaDoorMem
import Derived.BigQuiet
import Derived.Deep.RegionHeld3
namespace Go.Proofs.YtghkmagofadkfaaDoor
open Go.RowKit Go.Maps
set_option linter.unusedVariables false

abbrev lmV (s : LimT) : Value := .agg #[.int .i64 s.1, .int .i64 s.2]
abbrev lmO (s : LimT) : Obj := .cells #[.int .i64 s.1, .int .i64 s.2] 25
theorem below_lm (w : World) (s : LimT) : Below w.heap.size w (w.alloc (lmO s)) := (Below.refl _ w).alloc (Nat.le_refl _) _
theorem cap_laid : laidOutB Tryd.prog = true := by kernel_rfl
theorem lm_key {c b : Int} (h1 : -9223372036854775808 ≤ c) (h2 : c ≤ 9223372036854775807) (h3 : -9223372036854775808 ≤ b) (h4 : b ≤ 9223372036854775807) :
    keyOf Tryd.prog 25 (.agg #[.int .i64 c, .int .i64 b]) = some (.string (keyBytes [.int .i64 c, .int .i64 b])) := by
  have w1 : (Lit.int .i64 c).wf = true := WalkArith.wf_i64 (by omega)
  have w2 : (Lit.int .i64 b).wf = true := WalkArith.wf_i64 (by omega)
  have hu := Tryd.underlying25
  have hi := Tryd.underlying3
  have c1 : Tryd.prog.cellsOf 3 = 1 := by kernel_rfl
  have c2 : Tryd.prog.cellsOf 25 = 2 := by kernel_rfl
  have hk : Tryd.prog.keyType 25 = true := by kernel_rfl
  obtain ⟨m, hm⟩ : ∃ m, Tryd.prog.types.size = m + 1 := Nat.exists_eq_succ_of_ne_zero (of_decide_eq_true (by kernel_rfl))
  unfold keyOf
  simp only [hu]
  rw [if_pos (by simp [hk, Value.formed, hu, c2]), hm]
  unfold Program.keyLits
  simp only [hu, Value.cells]
  rw [if_pos (by simp [c2])]
  simp [Program.keyLits, hi, c1, w1, w2]
theorem lm_law : WideMaps.KeyLaw Tryd.prog 25 := deep_law_laid cap_laid (m := 3) (by decide) (of_decide_eq_true (by kernel_rfl)) (by kernel_rfl) (by kernel_rfl)
theorem lm_enc : KeyEnc Tryd.prog 25 lmV lmIn where
  law := Keyed.of_law lm_law
  key := fun s hs => ⟨_, lm_key hs.1.1 hs.1.2 hs.2.1 hs.2.2⟩
  inj := fun a b h => by
    obtain ⟨a1, a2⟩ := a
    obtain ⟨b1, b2⟩ := b
    simp only [lmV, Value.agg.injEq, Array.mk.injEq, List.cons.injEq, Value.int.injEq, true_and, and_true] at h
    rw [h.1, h.2]
theorem cap_zero64 (w : World) : (zeroValue 2).run Tryd.prog w = .ok (.int .i64 0) w := by kernel_rfl

/-- block g is limits with this table, of at most n entries; all of it lies from block B on. -/
structure CpAt (w : World) (B g n : Nat) (T : CTab) : Prop where
  ex : ∃ m, w.heap[g]? = some (.cells #[.map m] 29 (0, 0)) ∧ KeyVar Tryd.prog 25 2 .i64 lmV lmIn w m n T ∧ ∀ b, m = some b → B ≤ b
  low : B ≤ g
  ho : CaT T
theorem cpAt_new (w : World) : CpAt (w.alloc (.cells #[.map none] 29)) w.heap.size w.heap.size 0 noC :=
  ⟨⟨none, heap_alloc_new w _, rfl, fun b h => by cases h⟩, Nat.le_refl _, noC_ca⟩
/-- the blocks of limits. -/
def cpB (w : World) (g : Nat) (k : Nat) : Prop := k = g ∨ w.cell? ⟨g, 0, none⟩ = some (.map (some k))
section
variable {w w' : World} {B g n : Nat} {T : CTab}
theorem CpAt.lt (h : CpAt w B g n T) : g < w.heap.size := by
  obtain ⟨m, hg, _⟩ := h.ex
  exact (Array.getElem?_eq_some_iff.1 hg).1
theorem CpAt.same (h : CpAt w B g n T) (hb : ∀ i, i < w.heap.size → w'.heap[i]? = w.heap[i]?) : CpAt w' B g n T := by
  obtain ⟨m, hg, hm, hB⟩ := h.ex
  exact ⟨⟨m, (hb _ h.lt).trans hg, hm.same fun b e => hb _ (hm.lt b e), hB⟩, h.low, h.ho⟩
theorem CpAt.below {N : Nat} (h : CpAt w B g n T) (hb : Below N w w') (hN : w.heap.size ≤ N) : CpAt w' B g n T := h.same fun i hi => hb.block i (by omega)
theorem CpAt.base {B' : Nat} (h : CpAt w B g n T) (hb : B' ≤ B) : CpAt w B' g n T := by
  obtain ⟨m, hg, hm, hB⟩ := h.ex
  exact ⟨⟨m, hg, hm, fun b e => Nat.le_trans hb (hB b e)⟩, Nat.le_trans hb h.low, h.ho⟩
theorem CpAt.mono {n' : Nat} (h : CpAt w B g n T) (hn : n ≤ n') : CpAt w B g n' T := by
  obtain ⟨m, hg, hm, hB⟩ := h.ex
  exact ⟨⟨m, hg, hm.mono hn, hB⟩, h.low, h.ho⟩
/-- where a call turns other blocks alone. -/
theorem CpAt.trd {S : Nat → Prop} (h : CpAt w B g n T) (ht : Trd S w w') (hS : ∀ k, cpB w g k → ¬ S k) : CpAt w' B g n T := by
  obtain ⟨m, hg, hm, hB⟩ := h.ex
  refine ⟨⟨m, (ht.block _ h.lt (hS _ (.inl rfl))).trans hg, hm.same fun b e => ht.block _ (hm.lt b e) (hS _ (.inr ?_)), hB⟩, h.low, h.ho⟩
  rw [cell_of_row _ _ _ _ _ _ hg, e]
  rfl
theorem CpAt.blocks (h : CpAt w B g n T) {k : Nat} (hk : cpB w g k) : k < w.heap.size ∧ B ≤ k ∧ (k = g ∨ ∃ es c, w.heap[k]? = some (.map es c)) := by
  obtain ⟨m, hg, hm, hB⟩ := h.ex
  rcases hk with rfl | hk
  · exact ⟨h.lt, h.low, .inl rfl⟩
  · rw [cell_of_row _ _ _ _ _ _ hg] at hk
    simp at hk
    subst hk
    exact ⟨hm.lt k rfl, hB k rfl, .inr (KeyTab.isMap hm)⟩
theorem CpAt.keeps (h : CpAt w B g n T) (ht : Trd (cpB w g) w w') (hB : B ≤ w.heap.size) : Below B w w' := ht.below (fun k hk => (h.blocks hk).2.1) hB
theorem CpAt.ne_map {b : Nat} (h : CpAt w B g n T) {es : Array MapEntry} {c : Nat} (hb : w.heap[b]? = some (.map es c)) : g ≠ b := by
  rintro rfl
  obtain ⟨m, hg, _⟩ := h.ex
  rw [hg] at hb
  cases hb
theorem cpB_below (h : CpAt w B g n T) (hb : Below w.heap.size w w') : cpB w' g = cpB w g := by
  funext k
  unfold cpB
  rw [World.cell?_of_block (w := w) (hb.block _ h.lt)]
end

/-- what is read in Get: the map's variable, the spot's cells, what is found. -/
abbrev CGetS (w0 : World) (g k n : Nat) (m : Option Nat) (T : CTab) (c b v : Int) (W : World) : Prop :=
  (W.cell? ⟨g, 0, none⟩ = some (.map m) ∧ W.cell? ⟨k, 0, none⟩ = some (.int .i64 c) ∧ W.cell? ⟨k, 1, none⟩ = some (.int .i64 b)) ∧
  (Instr.lookup 27 (.map m) (.agg #[.int .i64 c, .int .i64 b]) false).run Tryd.prog W = .ok (.int .i64 v) W ∧
  KeyVar Tryd.prog 25 2 .i64 lmV lmIn W m n T ∧ Below w0.heap.size w0 W
theorem cgetS_drew {w0 W : World} {g k n : Nat} {m : Option Nat} {T : CTab} {c b v : Int} (hs : lmIn (c, b)) (hv : v = (T (c, b)).getD 0) (h : CGetS w0 g k n m T c b v W) : CGetS w0 g k n m T c b v W.drew := by
  obtain ⟨h1, _, h3, h4⟩ := h
  have h5 : KeyVar Tryd.prog 25 2 .i64 lmV lmIn W.drew m n T := h3.same fun _ _ => rfl
  refine ⟨h1, ?_, h5, h4.drew⟩
  rw [hv]
  exact h5.look lm_enc Tryd.underlying27 Tryd.underlying2 (cap_zero64 _) (c, b) hs
set_option maxHeartbeats 1600000 in
theorem cpGet_any (w : World) (B g n : Nat) (T : CTab) (h : CpAt w B g n T) (s : LimT) (hs : lmIn s) : Calls Tryd.prog 18 #[.pointer (some ⟨g, 0, none⟩), lmV s] w fun e w' => e = .returned (.int .i64 (getC T s)) ∧ Below w.heap.size w w' := by
  obtain ⟨c, b⟩ := s
  obtain ⟨m, hg, hm, _⟩ := (h.below (below_lm w (c, b)) (Nat.le_refl _)).ex
  have hh := heap_alloc_new w (lmO (c, b))
  have s0 := hidden (show CGetS w g w.heap.size n m T c b (getC T (c, b)) (w.alloc (lmO (c, b))) from
    ⟨⟨by rw [cell_of_row _ _ _ _ _ _ hg]; rfl, by rw [cell_of_row _ _ _ _ _ _ hh]; rfl, by rw [cell_of_row _ _ _ _ _ _ hh]; rfl⟩, hm.look lm_enc Tryd.underlying27 Tryd.underlying2 (cap_zero64 _) (c, b) hs, hm, below_lm w (c, b)⟩)
  have hd := hidden (fun W (h : CGetS w g w.heap.size n m T c b (getC T (c, b)) W) => (show CGetS w g w.heap.size n m T c b (getC T (c, b)) W.drew from cgetS_drew hs rfl h))
  generalize getC T (c, b) = v at *
  clear h hg hm hs hh
  go_enter Tryd.func18, Tryd.ntmps18
  go_wp2_with fail
  go_region_held3 (fun W => (W.cell? ⟨g, 0, none⟩ = some (.map m) ∧ W.cell? ⟨w.heap.size, 0, none⟩ = some (.int .i64 c) ∧ W.cell? ⟨w.heap.size, 1, none⟩ = some (.int .i64 b)) ∧
      (Instr.lookup 27 (.map m) (.agg #[.int .i64 c, .int .i64 b]) false).run Tryd.prog W = .ok (.int .i64 v) W ∧
      KeyVar Tryd.prog 25 2 .i64 lmV lmIn W m n T ∧ Below w.heap.size w W)
    ((first | exact hd.out _ s0.out | exact hd.out _ (by assumption)))
    (fail)
  go_wp2
  go_ret
  exact ⟨rfl, (hd.out _ s0.out).2.2.2⟩
end Go.Proofs.YtghkmagofadkfaaDoor
