/-
  A map to integers, by keys of whatever kind, in memory: a table of what stands at each key.
-/
import Derived.Test.YtlanggdmdpjfbaaDoorRet
import Derived.WalkKit
import Derived.Maps.OwnSet
import Derived.DeepKeys4
namespace Go.Proofs.YtlanggdmdpjfbaaDoor
open Go Go.RowKit Go.Maps
set_option linter.unusedVariables false

section
variable {κ : Type}
/-- how keys are written: each one that may be reads as a key, and unlike ones are unlike. -/
structure KeyEnc (P : Program) (k : TypeId) (ek : κ → Value) (ok : κ → Prop) : Prop where
  law : Keyed P k
  key : ∀ a, ok a → ∃ l, keyOf P k (ek a) = some l
  inj : ∀ a b, ek a = ek b → a = b
/-- the table behind a store. -/
def updK [DecidableEq κ] (T : κ → Option Int) (a : κ) (x : Int) : κ → Option Int := fun b => if b = a then some x else T b
theorem updK_same [DecidableEq κ] (T : κ → Option Int) (a : κ) (x : Int) : updK T a x a = some x := if_pos rfl
theorem updK_other [DecidableEq κ] (T : κ → Option Int) {a b : κ} (x : Int) (h : b ≠ a) : updK T a x b = T b := if_neg h
/-- what a datum says is what the table says. -/
def TabD (P : Program) (k : TypeId) (q : IntKind) (ek : κ → Value) (ok : κ → Prop) (D : DataW Unit) (T : κ → Option Int) : Prop :=
  ∀ a, ok a → ∀ l, keyOf P k (ek a) = some l → (∀ z, D.atKey l z = (match T a with | some x => .lit (.int q x) | none => z)) ∧ Maps.has D l = (T a).isSome
/-- block b is a map that reads as the table. -/
def KeyTab (P : Program) (k e : TypeId) (q : IntKind) (ek : κ → Value) (ok : κ → Prop) (w : World) (b n : Nat) (T : κ → Option Int) : Prop :=
  ∃ D : DataW Unit, w.ownsMap P k (plainElem P e) b n D ∧ TabD P k q ek ok D T
variable {P : Program} {k e t : TypeId} {q : IntKind} {ek : κ → Value} {ok : κ → Prop} {w w' : World} {b n : Nat} {T : κ → Option Int}
theorem keyTab_made (w : World) : KeyTab P k e q ek ok (w.alloc (.map #[] 0)) w.heap.size 0 (fun _ => none) :=
  ⟨_, World.ownsMap_made w P k _, fun a _ l _ => ⟨fun z => rfl, rfl⟩⟩
theorem KeyTab.lt (h : KeyTab P k e q ek ok w b n T) : b < w.heap.size := by obtain ⟨D, h, _⟩ := h; exact h.lt
theorem KeyTab.block (h : KeyTab P k e q ek ok w b n T) (hb : w'.heap[b]? = w.heap[b]?) : KeyTab P k e q ek ok w' b n T := by
  obtain ⟨D, ⟨es, clock, h1, r⟩, h2⟩ := h
  exact ⟨D, ⟨es, clock, hb.trans h1, r⟩, h2⟩
theorem KeyTab.isMap (h : KeyTab P k e q ek ok w b n T) : ∃ es clock, w.heap[b]? = some (.map es clock) := by
  obtain ⟨D, ⟨es, clock, h1, _⟩, _⟩ := h
  exact ⟨es, clock, h1⟩
theorem KeyTab.look (h : KeyTab P k e q ek ok w b n T) (hw : w'.heap[b]? = w.heap[b]?) (E : KeyEnc P k ek ok) (ht : P.underlying t = some (.map k e)) (he : P.underlying e = some (.int q)) (hz : (zeroValue e).run P w' = .ok (.int q 0) w') (a : κ) (ha : ok a) :
    (Instr.lookup t (.map (some b)) (ek a) false).run P w' = .ok (.int q ((T a).getD 0)) w' := by
  obtain ⟨l, hl⟩ := E.key a ha
  obtain ⟨D, h1, h2⟩ := h.block hw
  obtain ⟨c, hrun, hat, _⟩ := h1.lookup_int E.law ht he hz hl
  rw [(h2 a ha l hl).1] at hat
  rw [hrun]
  cases hT : T a with
  | none => rw [hT] at hat; cases hat; rfl
  | some x => rw [hT] at hat; cases hat; rfl
theorem KeyTab.look_ok (h : KeyTab P k e q ek ok w b n T) (hw : w'.heap[b]? = w.heap[b]?) (E : KeyEnc P k ek ok) (ht : P.underlying t = some (.map k e)) (he : P.underlying e = some (.int q)) (hz : (zeroValue e).run P w' = .ok (.int q 0) w') (a : κ) (ha : ok a) :
    (Instr.lookup t (.map (some b)) (ek a) true).run P w' = .ok (.tuple #[.int q ((T a).getD 0), .bool (T a).isSome]) w' := by
  obtain ⟨l, hl⟩ := E.key a ha
  obtain ⟨D, h1, h2⟩ := h.block hw
  have hw0 : (Lit.int q 0).wf = true := by cases q <;> decide
  obtain ⟨v, ps, hrun, hv⟩ := h1.look_ok E.law ht hz (plainElem_int he hw0) hl
  obtain ⟨c, rfl, hc, _⟩ := plainElem_int_inv he hv
  obtain ⟨q1, q2⟩ := h2 a ha l hl
  rw [q1] at hc
  rw [hrun, q2]
  cases hT : T a with
  | none => rw [hT] at hc; simp only [Prod.mk.injEq, DataW.lit.injEq, Lit.int.injEq] at hc; obtain ⟨⟨_, rfl⟩, _⟩ := hc; rfl
  | some x => rw [hT] at hc; simp only [Prod.mk.injEq, DataW.lit.injEq, Lit.int.injEq] at hc; obtain ⟨⟨_, rfl⟩, _⟩ := hc; rfl
theorem KeyTab.put [DecidableEq κ] (h : KeyTab P k e q ek ok w b n T) (E : KeyEnc P k ek ok) (ht : P.underlying t = some (.map k e)) (he : P.underlying e = some (.int q)) (hn : n < maxLen) (a : κ) (ha : ok a) (x : Int) (hx : (Lit.int q x).wf = true) :
    ∃ w', (Instr.mapUpdate t (.map (some b)) (ek a) (.int q x)).run P w = .ok () w' ∧ KeyTab P k e q ek ok w' b (n + 1) (updK T a x) ∧ w.grownBy w' (some b) := by
  obtain ⟨l, hl⟩ := E.key a ha
  obtain ⟨D, h1, h2⟩ := h
  obtain ⟨w', hrun, hown, hg⟩ := h1.update E.law ht hn hl (plainElem_int he hx)
  refine ⟨w', hrun, ⟨_, hown, fun a' ha' l' hl' => ?_⟩, hg⟩
  by_cases hEq : a' = a
  · subst hEq
    obtain rfl : l = l' := by rw [hl] at hl'; exact Option.some.inj hl'
    rw [updK_same]
    exact ⟨fun z => atKey_put_same h1.isMap (E.law.key hl) _ z, has_put_same h1.isMap (E.law.key hl) _⟩
  · have hne : l' ≠ l := fun e1 => by
      subst e1
      exact hEq (E.inj _ _ (E.law.inj hl' hl))
    rw [updK_other _ _ hEq]
    obtain ⟨q1, q2⟩ := h2 a' ha' l' hl'
    exact ⟨fun z => by rw [atKey_put_other hne]; exact q1 z, by rw [has_put_other hne]; exact q2⟩
/-- a map's variable: no map yet, or one. -/
def KeyVar (P : Program) (k e : TypeId) (q : IntKind) (ek : κ → Value) (ok : κ → Prop) (w : World) (m : Option Nat) (n : Nat) (T : κ → Option Int) : Prop :=
  match m with
  | none => T = fun _ => none
  | some b => KeyTab P k e q ek ok w b n T
theorem KeyVar.same {m : Option Nat} (h : KeyVar P k e q ek ok w m n T) (hb : ∀ b, m = some b → w'.heap[b]? = w.heap[b]?) : KeyVar P k e q ek ok w' m n T := by
  cases m with
  | none => exact h
  | some b => exact KeyTab.block h (hb b rfl)
theorem KeyVar.lt {m : Option Nat} (h : KeyVar P k e q ek ok w m n T) (b : Nat) (hm : m = some b) : b < w.heap.size := by
  subst hm
  exact KeyTab.lt h
theorem KeyVar.look {m : Option Nat} (h : KeyVar P k e q ek ok w m n T) (E : KeyEnc P k ek ok) (ht : P.underlying t = some (.map k e)) (he : P.underlying e = some (.int q)) (hz : (zeroValue e).run P w = .ok (.int q 0) w) (a : κ) (ha : ok a) :
    (Instr.lookup t (.map m) (ek a) false).run P w = .ok (.int q ((T a).getD 0)) w := by
  cases m with
  | none =>
    obtain rfl : T = fun _ => none := h
    obtain ⟨l, hl⟩ := E.key a ha
    exact Maps.look_nil false E.law ht hz hl
  | some b => exact KeyTab.look h rfl E ht he hz a ha
theorem KeyVar.look_ok {m : Option Nat} (h : KeyVar P k e q ek ok w m n T) (E : KeyEnc P k ek ok) (ht : P.underlying t = some (.map k e)) (he : P.underlying e = some (.int q)) (hz : (zeroValue e).run P w = .ok (.int q 0) w) (a : κ) (ha : ok a) :
    (Instr.lookup t (.map m) (ek a) true).run P w = .ok (.tuple #[.int q ((T a).getD 0), .bool (T a).isSome]) w := by
  cases m with
  | none =>
    obtain rfl : T = fun _ => none := h
    obtain ⟨l, hl⟩ := E.key a ha
    exact Maps.look_nil true E.law ht hz hl
  | some b => exact KeyTab.look_ok h rfl E ht he hz a ha
end
theorem KeyVar.mono {κ : Type} {P : Program} {k e : TypeId} {q : IntKind} {ek : κ → Value} {ok : κ → Prop} {w : World} {m : Option Nat} {n n' : Nat} {T : κ → Option Int} (h : KeyVar P k e q ek ok w m n T) (hn : n ≤ n') : KeyVar P k e q ek ok w m n' T := by
  cases m with
  | none => exact h
  | some b => obtain ⟨D, h1, h2⟩ := h; exact ⟨D, h1.mono hn, h2⟩
end Go.Proofs.YtlanggdmdpjfbaaDoor
