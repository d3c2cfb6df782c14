/-
  'append(s, x)' of one number beside another list of the call's own (as in StressDo, without the tables).
-/
import Derived.Test.YtlanggdmdpjfbaaDoorShare5
import Derived.Test.YtlanggdmdpjfbaaDoorShareMath
import Derived.Maps.AppendAt
namespace Go.Proofs.YtlanggdmdpjfbaaDoor
open Go Go.RowKit
set_option linter.unusedVariables false

theorem infoI23 : (Tryd.prog.info? 2).map (fun i => (i.zero, i.size, i.bytes)) = some (some (.int .i64 0), 1, 8) := by kernel_rfl
theorem wpList_app23 {P : Program} {w : World} {ops : Array Oper} {rest : List Oper} {o : Oper} {a : Act} {Q : Exit → Act → World → Prop} (hgd : o.guard = none) (s x : Operand) (t : TypeId)
    (ho : o.op = .call { callee := .builtin .append, args := #[s, x], argTypes := #[t, t] })
    (e : TypeId) {z : Value} {bytes : Nat} (ht : P.underlying t = some (.slice e)) (hi : (P.info? e).map (fun i => (i.zero, i.size, i.bytes)) = some (some z, 1, bytes)) (hzs : z.cells.size = 1) (hb64 : bytes ≤ 64)
    (base : Nat) (v : Value) (n : Nat) (xs : List Value) (hs : a.eval s = v) (hown : w.ownsRow base e 1 v n xs)
    (u : Value) (n0 : Nat) (hx : a.eval x = .slice (some ⟨n0, 0, none⟩) 1 1) (hn0 : n0 = w.heap.size) (hone : u.oneCell' = true) (hn : n ≤ 1099511627776) (hbase : base ≤ w.heap.size)
    (h : ∀ v' w', w'.ownsRow base e 1 v' (n + 1) (xs ++ [u]) → Below base w w' → Trd (fun k => v.ownBlock = some k) w w' → (v'.ownBlock = v.ownBlock ∨ ∃ b, v'.ownBlock = some b ∧ w.heap.size ≤ b) → wpList P ops Q rest (a.put o.dst v') w') : wpList P ops Q (o :: rest) a (w.alloc (.cells #[u] e)) := by
  subst hn0
  obtain ⟨i, hi0, h1, h2, h3⟩ := info_parts hi
  refine wpList_append_own_at (w := w.alloc (.cells #[u] e)) hgd s x t ho base e i z 1 bytes ht hi0 h1 h2 h3 hzs (by decide) v n xs hs (hown.alloc _) ⟨w.heap.size, 0, none⟩ 1 1 [u] hx (by simp) (new_cell _ _ _) (by simpa using hone) (by unfold maxLen; omega) ?_ (by simp; omega) ?_
  · calc (n + 1) * bytes ≤ (1099511627776 + 1) * 64 := Nat.mul_le_mul (by omega) hb64
      _ ≤ _ := by decide
  · intro v' w' h2 h3 _ h5
    refine h v' w' h2 (((Below.refl base w).alloc hbase _).grown h3 (by simp; omega) (fun g hg => (hown.lt g hg).1)) ((Trd.alloc w _).trans (Trd.grown h3 fun k e => e)) ?_
    rcases h5 with h5 | h5
    · exact .inl h5
    · exact .inr ⟨_, h5, by simp⟩
theorem own_trd23 {w w' : World} {S : Nat → Prop} {base size n : Nat} {e : TypeId} {v : Value} {xs : List Value} (h : w.ownsRow base e size v n xs) (ht : Trd S w w') (hv : ∀ b, v.ownBlock = some b → ¬ S b) : w'.ownsRow base e size v n xs := by
  obtain ⟨h1, h2⟩ := h
  refine ⟨h1, ?_⟩
  rcases h2 with h2 | ⟨g, cap, cur, rfl, hb, hh, r⟩
  · exact .inl h2
  · exact .inr ⟨g, cap, cur, rfl, hb, (ht.block g (Array.getElem?_eq_some_iff.1 hh).1 (hv g rfl)).trans hh, r⟩
theorem map_snoc23 (l : List Int) (x : Int) : (l ++ [x]).map (Value.int .i64) = l.map (Value.int .i64) ++ [.int .i64 x] := by simp
theorem aL_snoc (L : List Int) (k : Nat) (h : k < L.length) : aL23 (L.take (k + 1)) = aL23 (L.take k) ++ [sv23 (wF L k) + 1] := by
  unfold aL23
  rw [take_snoc0 L k h, List.map_append]
  rfl
theorem bL_snoc (L : List Int) (k : Nat) (h : k < L.length) : bL23 (L.take (k + 1)) = bL23 (L.take k) ++ [2 * sv23 (wF L k) + 2] := by
  unfold bL23
  rw [take_snoc0 L k h, List.map_append]
  rfl
end Go.Proofs.YtlanggdmdpjfbaaDoor
