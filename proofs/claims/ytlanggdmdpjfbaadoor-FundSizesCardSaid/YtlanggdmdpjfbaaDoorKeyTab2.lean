/-
  A map to integers as a table: 'm[k] += x' (an entry, then its store), 'delete(m, k)'.
-/
import Derived.Test.YtlanggdmdpjfbaaDoorKeyTab
import Derived.WideKeyEntry
namespace Go.Proofs.YtlanggdmdpjfbaaDoor
open Go Go.RowKit Go.Maps Go.MapKept Go.ChangeMaps
set_option linter.unusedVariables false

section
variable {κ : Type}
/-- the table behind a delete. -/
def dropK [DecidableEq κ] (T : κ → Option Int) (a : κ) : κ → Option Int := fun b => if b = a then none else T b
theorem dropK_same [DecidableEq κ] (T : κ → Option Int) (a : κ) : dropK T a a = none := if_pos rfl
theorem dropK_other [DecidableEq κ] (T : κ → Option Int) {a b : κ} (h : b ≠ a) : dropK T a b = T b := if_neg h
variable {P : Program} {k e t : TypeId} {q : IntKind} {ek : κ → Value} {ok : κ → Prop} {w w' : World} {b n : Nat} {T : κ → Option Int}
theorem KeyTab.entry [DecidableEq κ] (h : KeyTab P k e q ek ok w b n T) (E : KeyEnc P k ek ok) (K : WideMaps.KeyLaw P k) (ht : P.underlying t = some (.map k e)) (he : P.underlying e = some (.int q)) (hz : ∀ u : World, (zeroValue e).run P u = .ok (.int q 0) u) (hn : n < maxLen) (a : κ) (ha : ok a) :
    ∃ v0 st w1, (Instr.mapEntry t (.map (some b)) (ek a)).run P w = .ok (.tuple #[v0, goInt st]) w1 ∧ w.mapTurned w1 b ∧
      ∀ (w2 : World) (x : Int), w2.heap[b]? = w1.heap[b]? → (Lit.int q x).wf = true → ∃ w3, (Instr.entryStore t (.map (some b)) (goInt st) (.int q x)).run P w2 = .ok () w3 ∧ KeyTab P k e q ek ok w3 b (n + 1) (updK T a x) ∧ w2.mapTurned w3 b := by
  have hh := h
  obtain ⟨l, hl⟩ := E.key a ha
  obtain ⟨D, ⟨es, clock, hb, F, hs, hD⟩, h2⟩ := h
  obtain ⟨v0, st, es1, clock1, hrun, _, hst⟩ := WideElems.entry_then_store K ht hz hb F hl
  refine ⟨v0, st, setBlock w b (.map es1 clock1), hrun, ⟨es, clock, es1, clock1, hb, rfl⟩, fun w2 x hw2 hx => ?_⟩
  rw [heap_setBlock_same hb] at hw2
  obtain ⟨es', clock', r1, r2⟩ := hst w2 (.int q x) hw2
  obtain ⟨w', hrun', hK, _⟩ := hh.put E ht he hn a ha x hx
  rw [r2] at hrun'
  simp only [Result.ok.injEq, true_and] at hrun'
  subst hrun'
  refine ⟨_, r1, hK.block ?_, ⟨es1, clock1, es', clock', hw2, rfl⟩⟩
  rw [heap_setBlock_same hw2, heap_setBlock_same hb]
/-- behind an entry that was made, the look-up is what it was. -/
theorem KeyTab.entry_look [DecidableEq κ] (h : KeyTab P k e q ek ok w b n T) (E : KeyEnc P k ek ok) (K : WideMaps.KeyLaw P k) (ht : P.underlying t = some (.map k e)) (he : P.underlying e = some (.int q)) (hz : ∀ u : World, (zeroValue e).run P u = .ok (.int q 0) u) (hn : n < maxLen) (a : κ) (ha : ok a)
    {v : Value} {w1 W : World} (hr : (Instr.mapEntry t (.map (some b)) (ek a)).run P w = .ok v w1) (hW : W.heap[b]? = w1.heap[b]?) : (Instr.lookup t (.map (some b)) (ek a) false).run P W = .ok (.int q ((T a).getD 0)) W := by
  have hh := h
  have h0 := h.look (w' := w) rfl E ht he (hz w) a ha
  obtain ⟨l, hl⟩ := E.key a ha
  obtain ⟨D, ⟨es, clock, hb, F, hs, hD⟩, h2⟩ := h
  rcases K.find w hl es.toList F.keys with ⟨f1, f2⟩ | ⟨j, e0, f1, f2, f3⟩
  · have r1 : (Instr.mapEntry t (.map (some b)) (ek a)).run P w = .ok (.tuple #[.int q 0, goInt clock]) (setBlock w b (.map (es.push ⟨ek a, .int q 0, clock⟩) (clock + 1))) := by
      simp [Instr.mapEntry, run_underlying ht, MapKept.run_getObj_map hb, K.check w false hl, f1, hz, MapKept.run_setObj_map _ hb, Result.andThen, setBlock]
    have r2 : (Instr.mapUpdate t (.map (some b)) (ek a) (.int q 0)).run P w = .ok () (setBlock w b (.map (es.push ⟨ek a, .int q 0, clock⟩) (clock + 1))) := by
      simp [Instr.mapUpdate, run_underlying ht, MapKept.run_getObj_map hb, K.check w false hl, f1, MapKept.run_setObj_map _ hb, Result.andThen, setBlock]
    have r3 : (Instr.lookup t (.map (some b)) (ek a) false).run P w = .ok (.int q 0) w := by
      simp [Instr.lookup, run_underlying ht, MapKept.run_getObj_map hb, K.check w _ hl, f1, hz, Result.andThen]
    rw [r3] at h0
    simp only [Result.ok.injEq, Value.int.injEq, true_and, and_true] at h0
    rw [r1] at hr
    simp only [Result.ok.injEq] at hr
    obtain ⟨_, rfl⟩ := hr
    obtain ⟨w', hrun, hK, _⟩ := hh.put E ht he hn a ha 0 (by cases q <;> decide)
    rw [r2] at hrun
    simp only [Result.ok.injEq, true_and] at hrun
    subst hrun
    have := hK.look hW E ht he (hz W) a ha
    rw [updK_same] at this
    rw [this, ← h0]
    rfl
  · have hj : es[j]? = some e0 := by simpa using f2
    have hsame : es.modify j (fun e => { e with key := ek a }) = es := by
      apply Array.ext_getElem?
      intro i
      rw [Array.getElem?_modify]
      split
      · rename_i hi
        subst hi
        rw [hj, ← f3]
        rfl
      · rfl
    have r1 : (Instr.mapEntry t (.map (some b)) (ek a)).run P w = .ok (.tuple #[e0.val, goInt e0.born]) (setBlock w b (.map es clock)) := by
      simp [Instr.mapEntry, run_underlying ht, MapKept.run_getObj_map hb, K.check w false hl, f1, hj, f3, K.stays w hl, hsame, MapKept.run_setObj_map _ hb, Result.andThen, setBlock]
    rw [r1] at hr
    simp only [Result.ok.injEq] at hr
    obtain ⟨_, rfl⟩ := hr
    rw [heap_setBlock_same hb, ← hb] at hW
    exact hh.look hW E ht he (hz W) a ha
theorem KeyTab.drop [DecidableEq κ] (h : KeyTab P k e q ek ok w b n T) (E : KeyEnc P k ek ok) (ht : P.underlying t = some (.map k e)) (a : κ) (ha : ok a) (ty : TypeId) :
    ∃ w', (Builtin.delete_ #[t, k] ty #[.map (some b), ek a]).run P w = .ok (.tuple #[]) w' ∧ KeyTab P k e q ek ok w' b n (dropK T a) ∧ w.mapTurned w' b := by
  obtain ⟨l, hl⟩ := E.key a ha
  obtain ⟨D, h1, h2⟩ := h
  obtain ⟨w', hrun, hown, hg⟩ := h1.drop E.law ht hl ty
  refine ⟨w', hrun, ⟨_, hown, fun a' ha' l' hl' => ?_⟩, hg⟩
  by_cases hEq : a' = a
  · subst hEq
    obtain rfl : l = l' := by rw [hl] at hl'; exact Option.some.inj hl'
    rw [dropK_same]
    exact ⟨fun z => atKey_del_same z, has_del_same⟩
  · have hne : l' ≠ l := fun e1 => by
      subst e1
      exact hEq (E.inj _ _ (E.law.inj hl' hl))
    rw [dropK_other _ hEq]
    obtain ⟨q1, q2⟩ := h2 a' ha' l' hl'
    exact ⟨fun z => by rw [atKey_del_other hne]; exact q1 z, by rw [has_del_other hne]; exact q2⟩
end
end Go.Proofs.YtlanggdmdpjfbaaDoor
