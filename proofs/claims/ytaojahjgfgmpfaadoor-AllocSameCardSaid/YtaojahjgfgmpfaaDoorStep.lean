/-
  'append(s, x...)' at a step of a region that draws its order, s of the call's own, x whatever it is.
-/
import Derived.Test.YtaojahjgfgmpfaaDoorRow
import Derived.Deep.RegionHeld3
import Derived.Deep.AppendLies
namespace Go.Proofs.YtaojahjgfgmpfaaDoor
open Go Go.RowKit

theorem step_app {P : Program} {w : World} {ops : Array Oper} {o : Oper} {a : Act} {K : Act → World → Prop} {Q : Exit → Act → World → Prop} {E : Prop} (hgd : o.guard = none) (s x : Operand) (t : TypeId)
    (ho : o.op = .call { callee := .builtin .append, args := #[s, x], argTypes := #[t, t] })
    (e : TypeId) {z : Value} {bytes : Nat} (ht : P.underlying t = some (.slice e)) (hi : (P.info? e).map (fun i => (i.zero, i.size, i.bytes)) = some (some z, 1, bytes)) (hzs : z.cells.size = 1) (hb64 : bytes ≤ 64)
    (base : Nat) (v : Value) (n : Nat) (xs : List Value) (hs : a.eval s = v) (hown : w.ownsRow base e 1 v n xs)
    {k : IntKind} {xv : Value} {ys : List Int} (hx : a.eval x = xv) (hr : Reads k w xv ys) (hn : n ≤ 1099511627776) (hm : ys.length ≤ 1099511627776) (hbase : base ≤ w.heap.size)
    (h : ∀ v' w', w'.ownsRow base e 1 v' (n + ys.length) (xs ++ ys.map (Value.int k)) → Below base w w' → K (a.put o.dst v') w') :
    if Region.wanted o (yielded ops a.tmps) = true then Oper.wp P o a w K Q else E := by
  have hw : Region.wanted o (yielded ops a.tmps) = true := by simp [Region.wanted, hgd]
  rw [if_pos hw]
  obtain ⟨i, hi0, h1, h2, h3⟩ := info_parts hi
  have hr0 := hr
  obtain ⟨ao, len, c, rfl, el, hlc, hcm, hnone, _⟩ := hr
  subst el
  cases ao with
  | none =>
    obtain ⟨hl, rfl⟩ := hnone rfl
    have : ys = [] := List.eq_nil_of_length_eq_zero hl
    subst this
    have hrun := run_append_owned_none (P := P) (w := w) base t o.type e i 1 ht hi0 v n xs hown
    unfold Oper.wp execOp
    simp only [ho, resolve, invoke, builtin, Sem.run_bind, Sem.run_pure, Result.andThen_ok, List.map_toArray, List.map_cons, List.map_nil, hs, hx, List.length_nil, hrun]
    exact h v w (by simpa using hown) (Below.refl _ _)
  | some ad =>
    have hby : (n + ys.length) * bytes ≤ 140737488355328 := by
      calc (n + ys.length) * bytes ≤ (1099511627776 + 1099511627776) * 64 := Nat.mul_le_mul (by omega) hb64
        _ ≤ _ := by decide
    obtain ⟨v', w', hrun, g2, g3, _⟩ := run_append_own (P := P) (w := w) base t o.type e i z 1 bytes ht hi0 h1 h2 h3 hzs (by decide) v n xs hown ad ys.length c (ys.map (Value.int k)) (by simp) (hr0.cells ad rfl) (ints_oneCell _ _) (by unfold maxLen; omega) hby hbase
    unfold Oper.wp execOp
    simp only [ho, resolve, invoke, builtin, Sem.run_bind, Sem.run_pure, Result.andThen_ok, List.map_toArray, List.map_cons, List.map_nil, hs, hx, hrun]
    exact h v' w' g2 ((Below.refl base w).grown g3 hbase (fun g hg => (hown.lt g hg).1))
/-- .. where elements are several cells. -/
theorem step_appR {α : Type} {f : α → List Value} {s : Nat} {P : Program} {w : World} {ops : Array Oper} {o : Oper} {a : Act} {K : Act → World → Prop} {Q : Exit → Act → World → Prop} {E : Prop} (hgd : o.guard = none) (sl x : Operand) (t : TypeId)
    (ho : o.op = .call { callee := .builtin .append, args := #[sl, x], argTypes := #[t, t] })
    (hf : ∀ a, (f a).length = s) (h1c : ∀ a, ∀ u ∈ f a, u.oneCell' = true) (hs0 : 0 < s)
    (e : TypeId) {z : Value} {bytes : Nat} (ht : P.underlying t = some (.slice e)) (hi : (P.info? e).map (fun i => (i.zero, i.size, i.bytes)) = some (some z, s, bytes)) (hzs : z.cells.size = s) (hb64 : bytes ≤ 4096)
    (base : Nat) (v : Value) (l : List α) (hs : a.eval sl = v) (hown : OwnR f s e base w v l)
    {xv : Value} {ys : List α} (hx : a.eval x = xv) (hr : Row f s w xv ys) (hn2 : l.length ≤ 1000000) (hm : ys.length ≤ 1000000) (hbase : base ≤ w.heap.size)
    (h : ∀ v' w', OwnR f s e base w' v' (l ++ ys) → Below base w w' → K (a.put o.dst v') w') :
    if Region.wanted o (yielded ops a.tmps) = true then Oper.wp P o a w K Q else E := by
  have hw : Region.wanted o (yielded ops a.tmps) = true := by simp [Region.wanted, hgd]
  rw [if_pos hw]
  obtain ⟨i, hi0, h1, h2, h3⟩ := info_parts hi
  have hr0 := hr
  obtain ⟨ao, c, rfl, hlc, hcm, hnone, _⟩ := hr
  cases ao with
  | none =>
    obtain ⟨hl, rfl⟩ := hnone rfl
    have : ys = [] := List.eq_nil_of_length_eq_zero hl
    subst this
    have hrun := run_append_owned_none (P := P) (w := w) base t o.type e i s ht hi0 v _ _ hown
    unfold Oper.wp execOp
    simp only [ho, resolve, invoke, builtin, Sem.run_bind, Sem.run_pure, Result.andThen_ok, List.map_toArray, List.map_cons, List.map_nil, hs, hx, List.length_nil, hrun]
    exact h v w (by rw [List.append_nil]; exact hown) (Below.refl _ _)
  | some ad =>
    have hby : (l.length + ys.length) * bytes ≤ 140737488355328 := by
      calc (l.length + ys.length) * bytes ≤ (1000000 + 1000000) * 4096 := Nat.mul_le_mul (by omega) hb64
        _ ≤ _ := by decide
    have hone : ∀ u ∈ ys.flatMap f, u.oneCell' = true := fun u hu => by
      obtain ⟨y, _, hy⟩ := List.mem_flatMap.1 hu
      exact h1c y u hy
    obtain ⟨v', w', hrun, g2, g3, _⟩ := run_append_own (P := P) (w := w) base t o.type e i z s bytes ht hi0 h1 h2 h3 hzs hs0 v _ _ hown ad ys.length c (ys.flatMap f) (flatR_len hf ys) (hr0.cells hf) hone (by unfold maxLen; omega) hby hbase
    unfold Oper.wp execOp
    simp only [ho, resolve, invoke, builtin, Sem.run_bind, Sem.run_pure, Result.andThen_ok, List.map_toArray, List.map_cons, List.map_nil, hs, hx, hrun]
    exact h v' w' (by unfold OwnR; rw [List.flatMap_append, List.length_append]; exact g2) ((Below.refl base w).grown g3 hbase (fun g hg => (World.ownsRow.lt hown g hg).1))
end Go.Proofs.YtaojahjgfgmpfaaDoor
