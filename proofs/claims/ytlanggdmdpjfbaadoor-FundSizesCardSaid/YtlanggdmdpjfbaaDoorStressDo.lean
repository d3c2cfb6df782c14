/-
  What a table is told; 'append(s, x)' of one number beside another list of the call's own.
-/
import Derived.Test.YtlanggdmdpjfbaaDoorStressLaw
import Derived.Maps.AppendAt
namespace Go.Proofs.YtlanggdmdpjfbaaDoor
open Go.RowKit
set_option linter.unusedVariables false

/-- a loss that is set: its scene, member, how much. -/
structure LossD where
  s : Int
  m : Int
  x : Int
def lossZ : LossD := ⟨0, 0, 0⟩
def lossV (d : LossD) : List Value := [.int .i64 d.s, .int .i64 d.m, .int .i64 d.x]
theorem lossV_len (d : LossD) : (lossV d).length = 3 := rfl
def LossBig (d : LossD) : Prop := (-9223372036854775808 ≤ d.s ∧ d.s ≤ 9223372036854775807) ∧ (-9223372036854775808 ≤ d.m ∧ d.m ≤ 9223372036854775807) ∧ (-9223372036854775808 ≤ d.x ∧ d.x ≤ 9223372036854775807)
theorem rowLo_at {w : World} {a : Option Addr} {n c : Nat} {l : List LossD} (h : Row lossV 3 w (.slice a n c) l) (k : Nat) (hk : k < n) : ∃ b o, a = some ⟨b, o, none⟩ ∧
    w.cell? ⟨b, o + k * 3, none⟩ = some (.int .i64 (l.getD k lossZ).s) ∧ w.cell? ⟨b, o + k * 3 + 1, none⟩ = some (.int .i64 (l.getD k lossZ).m) ∧ w.cell? ⟨b, o + k * 3 + 2, none⟩ = some (.int .i64 (l.getD k lossZ).x) := by
  obtain ⟨b, o, rfl, hc⟩ := h.at lossV_len lossZ k hk (by decide)
  exact ⟨b, o, rfl, hc 0 (by omega), hc 1 (by omega), hc 2 (by omega)⟩
theorem getLo_mem {l : List LossD} {k : Nat} (h : k < l.length) : l.getD k lossZ ∈ l := by
  rw [List.getD_eq_getElem?_getD, List.getElem?_eq_getElem h]
  exact List.getElem_mem h
theorem infoI22 : (Tryd.prog.info? 2).map (fun i => (i.zero, i.size, i.bytes)) = some (some (.int .i64 0), 1, 8) := by kernel_rfl
theorem emptyI22 (w : World) : (Instr.buildSlice 23 0 #[]).run Tryd.prog w = .ok (.slice (some ⟨w.heap.size, 0, none⟩) 0 0) (w.alloc (.cells #[] 2)) := by kernel_rfl
/-- 'append(s, x)' of one element of one cell, with what stays. -/
theorem wpList_app1T {P : Program} {w : World} {ops : Array Oper} {rest : List Oper} {o : Oper} {a : Act} {Q : Exit → Act → World → Prop} (hgd : o.guard = none) (s x : Operand) (t : TypeId)
    (ho : o.op = .call { callee := .builtin .append, args := #[s, x], argTypes := #[t, t] })
    (e : TypeId) {z : Value} {bytes : Nat} (ht : P.underlying t = some (.slice e)) (hi : (P.info? e).map (fun i => (i.zero, i.size, i.bytes)) = some (some z, 1, bytes)) (hzs : z.cells.size = 1) (hb64 : bytes ≤ 64)
    (base : Nat) (v : Value) (n : Nat) (xs : List Value) (hs : a.eval s = v) (hown : w.ownsRow base e 1 v n xs)
    (u : Value) (n0 : Nat) (hx : a.eval x = .slice (some ⟨n0, 0, none⟩) 1 1) (hn0 : n0 = w.heap.size) (hone : u.oneCell' = true) (hn : n ≤ 1099511627776) (hbase : base ≤ w.heap.size)
    (h : ∀ v' w', w'.ownsRow base e 1 v' (n + 1) (xs ++ [u]) → Below base w w' → Trd (fun k => v.ownBlock = some k) w w' → (v'.ownBlock = v.ownBlock ∨ ∃ b, v'.ownBlock = some b ∧ w.heap.size ≤ b) → wpList P ops Q rest (a.put o.dst v') w') : wpList P ops Q (o :: rest) a (w.alloc (.cells #[u] e)) := by
  subst hn0
  obtain ⟨i, hi0, h1, h2, h3⟩ := info_parts hi
  refine wpList_append_own_at (w := w.alloc (.cells #[u] e)) hgd s x t ho base e i z 1 bytes ht hi0 h1 h2 h3 hzs (by decide) v n xs hs (hown.alloc _) ⟨w.heap.size, 0, none⟩ 1 1 [u] hx (by simp) (new_cell _ _ _) (by simpa using hone) (by unfold maxLen; omega) ?_ (by simp; omega) ?_
  · calc (n + 1) * bytes ≤ (1099511627776 + 1) * 64 := Nat.mul_le_mul (by omega) hb64
      _ ≤ _ := by decide
  · intro v' w' h2 h3 _ h5
    refine h v' w' h2 (((Below.refl base w).alloc hbase _).grown h3 (by simp; omega) (fun g hg => (hown.lt g hg).1)) ((Trd.alloc w _).trans (Trd.grown h3 fun k e => e)) ?_
    rcases h5 with h5 | h5
    · exact .inl h5
    · exact .inr ⟨_, h5, by simp⟩
theorem own_trd22 {w w' : World} {S : Nat → Prop} {base size n : Nat} {e : TypeId} {v : Value} {xs : List Value} (h : w.ownsRow base e size v n xs) (ht : Trd S w w') (hv : ∀ b, v.ownBlock = some b → ¬ S b) : w'.ownsRow base e size v n xs := by
  obtain ⟨h1, h2⟩ := h
  refine ⟨h1, ?_⟩
  rcases h2 with h2 | ⟨g, cap, cur, rfl, hb, hh, r⟩
  · exact .inl h2
  · exact .inr ⟨g, cap, cur, rfl, hb, (ht.block g (Array.getElem?_eq_some_iff.1 hh).1 (hv g rfl)).trans hh, r⟩
end Go.Proofs.YtlanggdmdpjfbaaDoor
