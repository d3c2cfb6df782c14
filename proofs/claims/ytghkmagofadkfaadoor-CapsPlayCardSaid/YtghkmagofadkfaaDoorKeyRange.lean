/-
  'for k, v := range m' over a map to integers, as a table: which keys are still to come.
-/
import Derived.Test.YtghkmagofadkfaaDoorKeyTab
import Derived.Maps.RangeWalk
namespace Go.Proofs.YtghkmagofadkfaaDoor
open Go Go.RowKit Go.Maps
set_option linter.unusedVariables false

section
variable {κ : Type}
/-- block r ranges over block b, which reads as the table T; 'lf a': is a's entry still to come? -/
def KeyRange (P : Program) (k e : TypeId) (q : IntKind) (ek : κ → Value) (ok : κ → Prop) (w : World) (b r n : Nat) (T : κ → Option Int) (lf : κ → Bool) (cnt : Nat) : Prop :=
  ∃ (D : DataW Unit) (left : Lit → Bool), w.ranges P k (plainElem P e) b r n D left cnt ∧ TabD P k q ek ok D T ∧ (∀ a, ok a → ∀ l, keyOf P k (ek a) = some l → left l = lf a) ∧ ∀ a, ok a → lf a = true → (T a).isSome = true
/-- each key that reads is one that was written so. -/
def KeyDec (P : Program) (k : TypeId) (ek : κ → Value) (ok : κ → Prop) : Prop := ∀ v l, keyOf P k v = some l → ∃ a, ok a ∧ v = ek a
variable {P : Program} {k e t : TypeId} {q : IntKind} {ek : κ → Value} {ok : κ → Prop} {w w' : World} {b r n cnt : Nat} {T : κ → Option Int} {lf : κ → Bool}
theorem KeyRange.tab (h : KeyRange P k e q ek ok w b r n T lf cnt) : KeyTab P k e q ek ok w b n T := by
  obtain ⟨D, left, h1, h2, _⟩ := h
  exact ⟨D, h1.owns, h2⟩
theorem KeyRange.left_eq (h : KeyRange P k e q ek ok w b r n T lf cnt) : w.rangeLeft b r = cnt := by
  obtain ⟨D, left, h1, _⟩ := h
  exact h1.left_eq
theorem KeyRange.lt (h : KeyRange P k e q ek ok w b r n T lf cnt) : r < w.heap.size := by
  obtain ⟨D, left, h1, _⟩ := h
  exact h1.lt
theorem KeyRange.there (h : KeyRange P k e q ek ok w b r n T lf cnt) (a : κ) (ha : ok a) (hl : lf a = true) : (T a).isSome = true := by
  obtain ⟨D, left, _, _, _, h4⟩ := h
  exact h4 a ha hl
theorem KeyRange.kept {row : Option Nat} (h : KeyRange P k e q ek ok w b r n T lf cnt) (hg : w.grownBy w' row) (hb : some b ≠ row) (hr : some r ≠ row) : KeyRange P k e q ek ok w' b r n T lf cnt := by
  obtain ⟨D, left, h1, h2, h3, h4⟩ := h
  exact ⟨D, left, h1.kept hg hb hr, h2, h3, h4⟩
theorem KeyRange.blocks (h : KeyRange P k e q ek ok w b r n T lf cnt) (hb : w'.heap[b]? = w.heap[b]?) (hr : w'.heap[r]? = w.heap[r]?) : KeyRange P k e q ek ok w' b r n T lf cnt := by
  obtain ⟨D, left, ⟨es, clock, since, seen, c0, g1, g2, g3, g4, g5, rest⟩, h2, h3, h4⟩ := h
  exact ⟨D, left, ⟨es, clock, since, seen, c0, hb.trans g1, g2, g3, g4, hr.trans g5, rest⟩, h2, h3, h4⟩
variable {ops : Array Oper} {rest : List Oper} {o : Oper} {a : Act} {Q : Exit → Act → World → Prop}
/-- 'range m'. -/
theorem wpList_range_key (hg : o.guard = none) (m : Operand) (hop : o.op = Op.range t m) (E : KeyEnc P k ek ok) (ht : P.underlying t = some (.map k e)) (hm : a.eval m = .map (some b)) (h : KeyTab P k e q ek ok w b n T)
    (hK : ∀ w' cnt, KeyRange P k e q ek ok w' b w.heap.size n T (fun a => (T a).isSome) cnt → w.grownBy w' none → w'.heap.size = w.heap.size + 1 → wpList P ops Q rest (a.put o.dst (.pointer (some ⟨w.heap.size, 0, none⟩))) w') :
    wpList P ops Q (o :: rest) a w := by
  obtain ⟨D, h1, h2⟩ := h
  refine wpList_range_own w hg m t hop k e E.law ht (plainElem P e) b n D hm h1 fun w' hr hgr hs => hK w' _ ⟨D, _, hr, h2, fun a ha l hl => ?_, fun a ha hl => hl⟩ hgr hs
  exact (h2 a ha l hl).2
/-- the step. -/
theorem wpList_next_key [DecidableEq κ] (hg : o.guard = none) (it : Operand) (hop : o.op = Op.next it false) (E : KeyEnc P k ek ok) (C : KeyDec P k ek ok) (he : P.underlying e = some (.int q))
    (hit : a.eval it = .pointer (some ⟨r, 0, none⟩)) (h : KeyRange P k e q ek ok w b r n T lf cnt)
    (hDone : (∀ a, ok a → lf a = false) → wpList P ops Q rest (a.put o.dst (.tuple #[.bool false])) w)
    (hMore : ∀ (x : κ) (c : Int) (w' : World) (cnt' : Nat), ok x → lf x = true → T x = some c → KeyRange P k e q ek ok w' b r n T (fun z => lf z && !decide (z = x)) cnt' → cnt' < cnt →
      w.grownBy w' (some r) → w'.heap.size = w.heap.size → (Instr.entry (.pointer (some ⟨r, 0, none⟩))).run P w' = .ok (.tuple #[ek x, .int q c]) w' → wpList P ops Q rest (a.put o.dst (.tuple #[.bool true, ek x, .int q c])) w') :
    wpList P ops Q (o :: rest) a w := by
  obtain ⟨D, left, h1, h2, h3, h4⟩ := h
  refine wpList_plain hg fun K' hK' => ?_
  unfold Oper.wp
  rcases h1.next E.law o.type with ⟨h0, hl, hrun⟩ | ⟨key, v, kl, y, w', cnt', hkey, hlk, hv, hat, hrun, hrg, hlt, hgr, hsz, hen⟩
  · simp [execOp, hop, hit, hrun, Result.andThen]
    exact hK' _ _ (hDone fun a ha => by
      obtain ⟨l, hl'⟩ := E.key a ha
      rw [← h3 a ha l hl']
      exact hl l)
  · obtain ⟨x, hx, rfl⟩ := C key kl hkey
    obtain ⟨c, rfl, hc, _⟩ := plainElem_int_inv he hv
    have hlx : lf x = true := by rw [← h3 x hx kl hkey]; exact hlk
    obtain ⟨u, hu⟩ := Option.isSome_iff_exists.1 (h4 x hx hlx)
    have hTx : T x = some c := by
      have q1 := (h2 x hx kl hkey).1 (.lit (.int q c))
      rw [hat, hu] at q1
      subst hc
      simp only [DataW.lit.injEq, Lit.int.injEq, true_and] at q1
      rw [hu, q1]
    simp [execOp, hop, hit, hrun, Result.andThen]
    refine hK' _ _ (hMore x c w' cnt' hx hlx hTx ⟨D, _, hrg, h2, fun a ha l hl => ?_, fun a ha hl => h4 a ha (by simp at hl; exact hl.1)⟩ hlt hgr hsz hen)
    simp only
    rw [h3 a ha l hl]
    congr 2
    by_cases hax : a = x
    · subst hax
      obtain rfl : kl = l := by rw [hkey] at hl; exact Option.some.inj hl
      rw [decide_eq_true rfl]
      exact WideAt.sameKey_self (E.law.key hl)
    · rw [decide_eq_false hax]
      cases hs : l.sameKey kl
      · rfl
      · obtain rfl := WideAt.sameKey_eq hs
        exact absurd (E.inj _ _ (E.law.inj hl hkey)) hax
end
end Go.Proofs.YtghkmagofadkfaaDoor
