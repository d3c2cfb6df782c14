/-
  'copy(dst, src)' where elements are several cells each; dst lies in a block that is known whole.
-/
import Derived.Test.YtfoiclgipnlfnaaDoorMem
import Derived.Laws.IdiomCopy
import Derived.Deep.RegionHeld3
namespace Go.Proofs.YtfoiclgipnlfnaaDoor
open Go Go.RowKit
set_option linter.unusedVariables false

section
variable {α : Type} {f : α → List Value} {s : Nat}
theorem run_copy_R {P : Program} (hf : ∀ a, (f a).length = s) (h1c : ∀ a, ∀ u ∈ f a, u.oneCell' = true) (w : World) (dT sT ty elem : TypeId) (g o dLen dCap : Nat) (sp : Option Addr) (sLen sCap : Nat) (F : List Value) (t : TypeId) (ys : List α)
    (hu : P.underlying dT = some (.slice elem)) (hs : (P.info? elem).map (·.size) = some s)
    (hg : w.heap[g]? = some (.cells F.toArray t (0, 0))) (hr : Row f s w (.slice sp sLen sCap) ys) (hle : sLen ≤ dLen) (hfit : o + sLen * s ≤ F.length) :
    (Builtin.copy_ #[dT, sT] ty #[.slice (some ⟨g, o, none⟩) dLen dCap, .slice sp sLen sCap]).run P w = .ok (goInt sLen) (w.setCells g o (ys.flatMap f)) := by
  obtain ⟨hlen, _, _, hnone⟩ := row_cap hr
  have hfl : (ys.flatMap f).length = sLen * s := by rw [flatR_len hf, ← hlen]
  have hm : Nat.min sLen dLen = sLen := Nat.min_eq_left hle
  have hst := run_storeCells_cells (P := P) g o (ys.flatMap f) 0 w
    (fun j hj => by
      rw [cell_of_row _ _ _ _ _ _ hg, List.getElem?_toArray, List.getElem?_eq_getElem (by omega)]; rfl)
    (fun j _ => by simp [World.frozen?, hg])
    (fun u hu => by
      obtain ⟨y, _, hy⟩ := List.mem_flatMap.1 hu
      exact h1c y u hy)
  cases hq : P.info? elem with
  | none => simp [hq] at hs
  | some i =>
    have hi : i.size = s := by simpa [hq] using hs
    cases sp with
    | none =>
      obtain ⟨rfl, rfl⟩ := hnone rfl
      have : ys = [] := List.eq_nil_of_length_eq_zero hlen.symm
      subst this
      simp [Builtin.copy_, run_underlying hu, Builtin.lenOf, Builtin.firstCells, sizeOf, typeInfo, hq, storeCells, World.setCells]
    | some ad =>
      have hl := run_loadCells_list (P := P) w ad (ys.flatMap f) (hr.cells hf)
      rw [hfl] at hl
      simp [Builtin.copy_, run_underlying hu, Builtin.lenOf, Builtin.firstCells, sizeOf, typeInfo, hq, hi, hm, hl, hst]
theorem step_copyR {P : Program} {ops : Array Oper} {o : Oper} {a : Act} {w : World} {K : Act → World → Prop} {Q : Exit → Act → World → Prop} {E : Prop} (hgd : o.guard = none) (d sl : Operand) (dT sT : TypeId)
    (ho : o.op = .call { callee := .builtin .copy, args := #[d, sl], argTypes := #[dT, sT] }) (elem : TypeId) (hu : P.underlying dT = some (.slice elem)) (hsz : (P.info? elem).map (·.size) = some s)
    (hf : ∀ a, (f a).length = s) (h1c : ∀ a, ∀ u ∈ f a, u.oneCell' = true)
    (g off dLen dCap : Nat) (sp : Option Addr) (sLen sCap : Nat) (hd : a.eval d = .slice (some ⟨g, off, none⟩) dLen dCap) (hs : a.eval sl = .slice sp sLen sCap)
    (F : List Value) (t : TypeId) (ys : List α) (hg : w.heap[g]? = some (.cells F.toArray t (0, 0))) (hr : Row f s w (.slice sp sLen sCap) ys) (hle : sLen ≤ dLen) (hfit : off + sLen * s ≤ F.length)
    (h : K (a.put o.dst (goInt sLen)) (w.setCells g off (ys.flatMap f))) :
    if Region.wanted o (yielded ops a.tmps) = true then Oper.wp P o a w K Q else E := by
  have hw : Region.wanted o (yielded ops a.tmps) = true := by simp [Region.wanted, hgd]
  rw [if_pos hw]
  have hrun := run_copy_R (P := P) hf h1c w dT sT o.type elem g off dLen dCap sp sLen sCap F t ys hu hsz hg hr hle hfit
  unfold Oper.wp execOp
  simp only [ho, resolve, invoke, builtin, Sem.run_bind, Sem.run_pure, Result.andThen_ok, List.map_toArray, List.map_cons, List.map_nil, hd, hs, hrun]
  exact h
theorem wpList_copyR {P : Program} {w : World} {ops : Array Oper} {rest : List Oper} {o : Oper} {a : Act} {Q : Exit → Act → World → Prop} (hgd : o.guard = none) (d sl : Operand) (dT sT : TypeId)
    (ho : o.op = .call { callee := .builtin .copy, args := #[d, sl], argTypes := #[dT, sT] }) (elem : TypeId) (hu : P.underlying dT = some (.slice elem)) (hsz : (P.info? elem).map (·.size) = some s)
    (hf : ∀ a, (f a).length = s) (h1c : ∀ a, ∀ u ∈ f a, u.oneCell' = true)
    (g off dLen dCap : Nat) (sp : Option Addr) (sLen sCap : Nat) (hd : a.eval d = .slice (some ⟨g, off, none⟩) dLen dCap) (hs : a.eval sl = .slice sp sLen sCap)
    (F : List Value) (t : TypeId) (ys : List α) (hg : w.heap[g]? = some (.cells F.toArray t (0, 0))) (hr : Row f s w (.slice sp sLen sCap) ys) (hle : sLen ≤ dLen) (hfit : off + sLen * s ≤ F.length)
    (h : wpList P ops Q rest (a.put o.dst (goInt sLen)) (w.setCells g off (ys.flatMap f))) : wpList P ops Q (o :: rest) a w := by
  refine wpList_plain hgd fun K hK => ?_
  have hrun := run_copy_R (P := P) hf h1c w dT sT o.type elem g off dLen dCap sp sLen sCap F t ys hu hsz hg hr hle hfit
  unfold Oper.wp
  simp [execOp, ho, resolve, invoke, builtin, hd, hs, hrun, Result.andThen]
  exact hK _ _ h
end
end Go.Proofs.YtfoiclgipnlfnaaDoor
