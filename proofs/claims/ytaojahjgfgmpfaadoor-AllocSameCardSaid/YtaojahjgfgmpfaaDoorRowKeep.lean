/-
  'append' on a slice of structs of the call's own, with what stays: all blocks but the slice's own.
-/
import Derived.Test.YtaojahjgfgmpfaaDoorMem
namespace Go.Proofs.YtaojahjgfgmpfaaDoor
open Go.RowKit
set_option linter.unusedVariables false

variable {α : Type} {f : α → List Value} {s : Nat}
/-- 'append(s, x...)', s of the call's own, x whatever it is. -/
theorem wpList_appRK {P : Program} {w : World} {ops : Array Oper} {rest : List Oper} {o : Oper} {a : Act} {Q : Exit → Act → World → Prop} (hgd : o.guard = none) (sl x : Operand) (t : TypeId)
    (ho : o.op = .call { callee := .builtin .append, args := #[sl, x], argTypes := #[t, t] })
    (hf : ∀ a, (f a).length = s) (h1c : ∀ a, ∀ u ∈ f a, u.oneCell' = true) (hs0 : 0 < s)
    (e : TypeId) {z : Value} {bytes : Nat} (ht : P.underlying t = some (.slice e)) (hi : (P.info? e).map (fun i => (i.zero, i.size, i.bytes)) = some (some z, s, bytes)) (hzs : z.cells.size = s) (hb64 : bytes ≤ 4096)
    (base : Nat) (v : Value) (l : List α) (hs : a.eval sl = v) (hown : OwnR f s e base w v l)
    {xv : Value} {ys : List α} (hx : a.eval x = xv) (hr : Row f s w xv ys) (hn2 : l.length ≤ 1000000) (hm : ys.length ≤ 1000000) (hbase : base ≤ w.heap.size)
    (h : ∀ v' w', OwnR f s e base w' v' (l ++ ys) → Below base w w' → Trd (fun k => v.ownBlock = some k) w w' → wpList P ops Q rest (a.put o.dst v') w') : wpList P ops Q (o :: rest) a w := by
  obtain ⟨i, hi0, h1, h2, h3⟩ := info_parts hi
  have hr0 := hr
  obtain ⟨ao, c, rfl, hlc, hcm, hnone, _⟩ := hr
  cases ao with
  | none =>
    obtain ⟨hl, rfl⟩ := hnone rfl
    have : ys = [] := List.eq_nil_of_length_eq_zero hl
    subst this
    refine wpList_append_own_none hgd sl x t ho base e i s ht hi0 v _ _ hs hown hx ?_
    exact h v w (by rw [List.append_nil]; exact hown) (Below.refl _ _) (Trd.refl _ _)
  | some ad =>
    refine wpList_append_own w hgd sl x t ho base e i z s bytes ht hi0 h1 h2 h3 hzs hs0 v _ _ hs hown ad ys.length c (ys.flatMap f) hx (flatR_len hf ys) (hr0.cells hf) ?_ (by unfold maxLen; omega) ?_ hbase ?_
    · intro u hu
      obtain ⟨y, _, hy⟩ := List.mem_flatMap.1 hu
      exact h1c y u hy
    · calc (l.length + ys.length) * bytes ≤ (1000000 + 1000000) * 4096 := Nat.mul_le_mul (by omega) hb64
        _ ≤ _ := by decide
    · intro v' w' h2 h3 _
      exact h v' w' (by unfold OwnR; rw [List.flatMap_append, List.length_append]; exact h2) ((Below.refl base w).grown h3 hbase (fun g hg => (World.ownsRow.lt hown g hg).1)) (Trd.grown h3 fun k e => e)
/-- 'append(s, x)' of one element, s of the call's own; the element's cells lie in new memory. -/
theorem wpList_appR1K {P : Program} {w : World} {ops : Array Oper} {rest : List Oper} {o : Oper} {a : Act} {Q : Exit → Act → World → Prop} (hgd : o.guard = none) (sl x : Operand) (t : TypeId)
    (ho : o.op = .call { callee := .builtin .append, args := #[sl, x], argTypes := #[t, t] })
    (hf : ∀ a, (f a).length = s) (h1c : ∀ a, ∀ u ∈ f a, u.oneCell' = true) (hs0 : 0 < s)
    (e : TypeId) {z : Value} {bytes : Nat} (ht : P.underlying t = some (.slice e)) (hi : (P.info? e).map (fun i => (i.zero, i.size, i.bytes)) = some (some z, s, bytes)) (hzs : z.cells.size = s) (hb64 : bytes ≤ 4096)
    (base : Nat) (v : Value) (l : List α) (hs : a.eval sl = v) (hown : OwnR f s e base w v l)
    (y : α) (cs : Array Value) (hcs : cs = (f y).toArray) (n0 : Nat) (hx : a.eval x = .slice (some ⟨n0, 0, none⟩) 1 1) (hn0 : n0 = w.heap.size) (hn2 : l.length ≤ 1000000) (hbase : base ≤ w.heap.size)
    (h : ∀ v' w', OwnR f s e base w' v' (l ++ [y]) → Below base w w' → Trd (fun k => v.ownBlock = some k) w w' → wpList P ops Q rest (a.put o.dst v') w') : wpList P ops Q (o :: rest) a (w.alloc (.cells cs e)) := by
  subst hn0
  refine wpList_appRK hgd sl x t ho hf h1c hs0 e ht hi hzs hb64 base v l hs (hown.alloc _) (ys := [y]) hx (row_new hf cs [y] 1 rfl (by simpa using hcs) (by decide)) hn2 (by simp) (by simp; omega) ?_
  intro v' w' h2 h3 h4
  exact h v' w' h2 (((Below.refl base w).alloc hbase _).trans h3) ((Trd.alloc w _).trans h4)
end Go.Proofs.YtaojahjgfgmpfaaDoor
