/-
  first, light, other; problems that the statements make.
-/
import Derived.Test.YtmihpgccdknhfaaDoorLots1
import Derived.Test.YtmihpgccdknhfaaDoorLots6
namespace Go.Proofs.YtmihpgccdknhfaaDoor
open Go.RowKit
set_option linter.unusedVariables false

/-- a problem in new memory. -/
theorem pbr_new (w : World) (L : List Lt) (C : List Int) (n m : Nat) (csL csC : Array Value) (hL : csL = (L.flatMap ltV).toArray) (hC : csC = (C.map (Value.int .i64)).toArray) (hn : L.length = n) (hm : C.length = m) (hn1 : n ≤ 1000) (hm1 : m ≤ 1000)
    (hb : ∀ x ∈ L, ltBig x) (hc : ∀ c ∈ C, In64 c) : PbR ((w.alloc (.cells csL ltTy)).alloc (.cells csC 2)) (.slice (some ⟨w.heap.size, 0, none⟩) n n) (.slice (some ⟨w.heap.size + 1, 0, none⟩) m m) L C := by
  refine ⟨(row_new ltV_len csL L n hn hL (by omega)).below ltV_len ((Below.refl _ _).alloc (Nat.le_refl _) _) (Nat.le_refl _), ?_, hb, hc⟩
  subst hC
  have e : (w.alloc (.cells csL ltTy)).heap.size = w.heap.size + 1 := by simp
  have h := heap_alloc_new (w.alloc (.cells csL ltTy)) (.cells (C.map (Value.int .i64)).toArray 2)
  rw [e] at h
  exact reads_block h hm (by omega)
theorem below_pb3 (w : World) (o1 o2 o3 : Obj) : Below w.heap.size w (((w.alloc o1).alloc o2).alloc o3) := (((Below.refl _ w).alloc (Nat.le_refl _) o1).alloc (by simp) o2).alloc (by simp; omega) o3
theorem pb_size : (Tryd.prog.info? pbTyR).map (·.size) = some 3 := by kernel_rfl
theorem pb_end1 {fn : Func} {p : Tmp} {R : Ending → World → Prop} {a : Act} {w : World} {g : Nat} {lv cv : Value} {n : Int} (h : fn.results = #[.cell p pbTyR]) (hd : a.defers = []) (hp : a.tmps.getD p undef = .pointer (some ⟨g, 0, none⟩)) (hg : PbAt w g pbTyR lv cv n)
    (hR : R (.returned (pbA lv cv n)) w) : bodyPost Tryd.prog fn R .ret a w :=
  bodyPost_ret (results_cell_row h _ _ _ _ _ _ _ hp hg.row Tryd.underlying30 rfl pb_size) hd hR
instance (x : Lt) : Decidable (ltBig x) := by unfold ltBig In64; infer_instance
def oneL : List Lt := [⟨3, 5, 1, 0⟩]
theorem oneL_ok : OkP oneL [0] 0 := by decide
theorem oneL_gr : grB oneL [0] 0 = true ∧ grL oneL [0] 0 = [0] ∧ moV oneL [0] 0 = 15 := by decide
end Go.Proofs.YtmihpgccdknhfaaDoor
