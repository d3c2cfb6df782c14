/-
  Takes that a statement writes out.
-/
import Derived.Test.YtmihpgccdknhfaaDoorLotsLaw
import Derived.Test.YtmihpgccdknhfaaDoorBase
namespace Go.Proofs.YtmihpgccdknhfaaDoor
open Go.RowKit
set_option linter.unusedVariables false

theorem ints_new (W : World) (l : List Int) (m : Nat) (cs : Array Value) (hcs : cs = (l.map (Value.int .i64)).toArray) (hm : l.length = m) (hm1 : m ≤ 1000) : Reads .i64 (W.alloc (.cells cs inTy)) (.slice (some ⟨W.heap.size, 0, none⟩) m m) l := by
  subst hcs
  exact reads_block (heap_alloc_new W _) hm (by omega)
theorem below_ints (W : World) (cs : Array Value) : Below W.heap.size W (W.alloc (.cells cs inTy)) := (Below.refl _ W).alloc (Nat.le_refl _) _
theorem worth_lit (A : Nat → Addr) (lv cv : Value) (L : List Lt) (C : List Int) (n : Int) (W : World) (g : Nat) (hg : g = W.heap.size) (l : List Int) (m : Nat) (cs : Array Value) (h : PbR W lv cv L C) (hE : ErrsOn [2, 4] W A) (hcs : cs = (l.map (Value.int .i64)).toArray) (hm : l.length = m) (hm1 : m ≤ 1000) :
    Calls Tryd.prog 26 #[pbA lv cv n, .slice (some ⟨g, 0, none⟩) m m] (W.alloc (.cells cs inTy)) fun e w' => e = .returned (.tuple #[.int .i64 (woV L C n l), .bool (goodB L C n l)]) ∧ Below W.heap.size W w' := by
  subst hg
  exact (ltWorth2_any A lv cv L C n _ l _ (h.below (below_ints W cs) (Nat.le_refl _)) (ints_new W l m cs hcs hm hm1) (hE.below (below_ints W cs) (Nat.le_refl _))).mono fun e w' ⟨a, b⟩ => ⟨a, (below_ints W cs).trans (b.mono (by simp))⟩
theorem cost_lit (A : Nat → Addr) (lv cv : Value) (L : List Lt) (C : List Int) (n : Int) (W : World) (g : Nat) (hg : g = W.heap.size) (l : List Int) (m : Nat) (cs : Array Value) (h : PbR W lv cv L C) (hE : ErrsOn [2, 4] W A) (hcs : cs = (l.map (Value.int .i64)).toArray) (hm : l.length = m) (hm1 : m ≤ 1000) :
    Calls Tryd.prog 21 #[pbA lv cv n, .slice (some ⟨g, 0, none⟩) m m] (W.alloc (.cells cs inTy)) fun e w' => e = .returned (.tuple #[.int .i64 (coV L C n l), .bool (goodB L C n l)]) ∧ Below W.heap.size W w' := by
  subst hg
  exact (ltCost_any A lv cv L C n _ l _ (h.below (below_ints W cs) (Nat.le_refl _)) (ints_new W l m cs hcs hm hm1) (hE.below (below_ints W cs) (Nat.le_refl _))).mono fun e w' ⟨a, b⟩ => ⟨a, (below_ints W cs).trans (b.mono (by simp))⟩
end Go.Proofs.YtmihpgccdknhfaaDoor
