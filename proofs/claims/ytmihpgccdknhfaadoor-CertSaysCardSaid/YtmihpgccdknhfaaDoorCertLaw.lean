/-
  The chapter's examples.
-/
import Derived.Test.YtmihpgccdknhfaaDoorCertC
import Derived.Test.YtmihpgccdknhfaaDoorLotsLit
namespace Go.Proofs.YtmihpgccdknhfaaDoor
open Go Go.RowKit
set_option linter.unusedVariables false

theorem fir21_two : SwIs firL [0] 6 [2] none := .inr fun j hj => by
  obtain rfl : j = 0 := by simp at hj; exact hj
  decide
theorem fir21_three : SwIs firL [0] 6 [3] (some 0) := ⟨by decide, by decide, by decide, fun j hj => by omega⟩
/-- a take that a statement writes out. -/
theorem swap_lit (A : Nat → Addr) (lv cv : Value) (L : List Lt) (C : List Int) (n : Int) (W : World) (g : Nat) (hg : g = W.heap.size) (l : List Int) (m : Nat) (cs : Array Value) (h : PbR W lv cv L C) (hE : ErrsOn [2, 4] W A) (hcs : cs = (l.map (Value.int .i64)).toArray) (hm : l.length = m) (hm1 : m ≤ 1000) (o : Option Nat) (ho : SwIs L C n l o) :
    Calls Tryd.prog 14 #[pbA lv cv n, .slice (some ⟨g, 0, none⟩) m m] (W.alloc (.cells cs inTy)) fun e w' => ∃ v, e = .returned (.tuple #[v, .bool o.isSome]) ∧ Reads .i64 w' v (swL l o) ∧ Below W.heap.size W w' := by
  subst hg
  refine (swapAny21 A lv cv L C n _ l _ (h.below (below_ints W cs) (Nat.le_refl _)) (ints_new W l m cs hcs hm hm1) (hE.below (below_ints W cs) (Nat.le_refl _))).mono ?_
  rintro e w' ⟨q, v, hq, he, hr, hb⟩
  obtain rfl := sw_same ho hq
  exact ⟨v, he, hr, (below_ints W cs).trans (hb.mono (by simp))⟩
set_option maxRecDepth 100000 in
set_option maxHeartbeats 6400000 in
theorem law21_first (A : Nat → Addr) (w : World) (hE : ErrsOn [2, 4] w A) : Calls Tryd.prog 6 #[] w fun e w' => e = .returned (.bool true) ∧ Below w.heap.size w w' := by
  have hpr := pbr_new w firL [0] 1 1 #[.int .i64 3, .int .i64 5, .int .i64 2, .int .i64 0] #[.int .i64 0] rfl rfl rfl rfl (by decide) (by decide) (by decide) (by decide)
  have hb3 := hidden (below_pb3 w (.cells #[.int .i64 3, .int .i64 5, .int .i64 2, .int .i64 0] ltTy) (.cells #[.int .i64 0] 2) (pbO pbTy (.slice (some ⟨w.heap.size, 0, none⟩) 1 1) (.slice (some ⟨w.heap.size + 1, 0, none⟩) 1 1) 6))
  have hbp := below_pb ((w.alloc (.cells #[.int .i64 3, .int .i64 5, .int .i64 2, .int .i64 0] ltTy)).alloc (.cells #[.int .i64 0] 2)) pbTy (.slice (some ⟨w.heap.size, 0, none⟩) 1 1) (.slice (some ⟨w.heap.size + 1, 0, none⟩) 1 1) 6
  have hP := hidden (hpr.below hbp (Nat.le_refl _))
  have hpa := pbAt_new ((w.alloc (.cells #[.int .i64 3, .int .i64 5, .int .i64 2, .int .i64 0] ltTy)).alloc (.cells #[.int .i64 0] 2)) pbTy (.slice (some ⟨w.heap.size, 0, none⟩) 1 1) (.slice (some ⟨w.heap.size + 1, 0, none⟩) 1 1) 6
  simp only [World.size_alloc] at hpa
  have hsz : (((w.alloc (.cells #[.int .i64 3, .int .i64 5, .int .i64 2, .int .i64 0] ltTy)).alloc (.cells #[.int .i64 0] 2)).alloc (pbO pbTy (.slice (some ⟨w.heap.size, 0, none⟩) 1 1) (.slice (some ⟨w.heap.size + 1, 0, none⟩) 1 1) 6)).heap.size = w.heap.size + 3 := by simp
  go_enter Tryd.func6, Tryd.ntmps6
  go_upto_region 2 with (fail)
  generalize ((w.alloc (.cells #[.int .i64 3, .int .i64 5, .int .i64 2, .int .i64 0] ltTy)).alloc (.cells #[.int .i64 0] 2)).alloc (pbO pbTy (.slice (some ⟨w.heap.size, 0, none⟩) 1 1) (.slice (some ⟨w.heap.size + 1, 0, none⟩) 1 1) 6) = wP at *
  have hS1 := hidden (swap_lit A _ _ firL [0] 6 wP (w.heap.size + 3) hsz.symm [2] 1 #[.int .i64 2] hP.out (hE.below hb3.out (Nat.le_refl _)) rfl rfl (by decide) none fir21_two)
  have hS2 := hidden (fun W (h2 : Below wP.heap.size wP W) => swap_lit A _ _ firL [0] 6 W W.heap.size rfl [3] 1 #[.int .i64 3] (hP.out.below h2 (Nat.le_refl _)) (hE.below (hb3.out.trans (h2.mono hb3.out.size)) (Nat.le_refl _)) rfl rfl (by decide) (some 0) fir21_three)
  have hpc := hidden (fun W h2 => (hpa.below (w' := W) h2 (Nat.le_refl _)).cells)
  obtain ⟨c0, c1, c2⟩ := hpa.cells
  clear hE hpr hbp hpa hP
  go_wp2_with fail
  (with_reducible refine hS1.out.mono ?_)
  rintro e w1 ⟨v1, rfl, _, hb1⟩
  clear c0 c1 c2
  obtain ⟨c0, c1, c2⟩ := hpc.out _ hb1
  have hM1 := hidden (hS2.out _ hb1)
  replace hb1 := hidden hb1
  clear hS1 hS2
  go_wp2_with fail
  (with_reducible refine hM1.out.mono ?_)
  rintro e w2 ⟨v2, rfl, hr2, hb2⟩
  obtain ⟨va, vc, rfl⟩ := reads_slice hr2
  obtain ⟨b, o, rfl, cv⟩ := hr2.cell 0 (by decide)
  have hend := hidden (hb3.out.trans ((hb1.out.trans (hb2.mono hb1.out.size)).mono hb3.out.size))
  have e2 : (swL [3] (some 0)).getD 0 0 = 2 := rfl
  have e3 : (swL [3] (some 0)).length = 1 := rfl
  rw [e2] at cv
  rw [e3]
  simp only [Nat.add_zero, Option.isSome_some] at cv ⊢
  have hnn := Nat.add_zero o
  clear hM1 hb1 hb2 hr2 hpc c0 c1 c2 e2 e3 hb3
  go_wp2
  go_ret
  exact ⟨rfl, hend.out⟩
end Go.Proofs.YtmihpgccdknhfaaDoor
