/-
  From the row's list to the sentinels' places.
-/
import Derived.Test.YtodhoblacalbiaaDoorRows
import Derived.Test.YtodhoblacalbiaaDoorSee
import Derived.LaidLaws
import Derived.LaidMore
import Derived.LaidSub
import Derived.MakeChecks
namespace Go.Proofs.YtodhoblacalbiaaDoor
open Go.ChangeShapes Go.WideShapes Go.RowKit

theorem cellsES : Tryd.prog.cellsOf 86 = 1 := by kernel_rfl
theorem cellsStr : Tryd.prog.cellsOf 9 = 1 := by kernel_rfl
theorem star : "*" ++ "errors.errorString" = "*errors.errorString" := by decide
theorem rowES (u : TypeId) (h : Tryd.prog.typeName? 3 u = some "*errors.errorString") : u = 69 :=
  typeName_ptr_named (nm := "errors.errorString") (by rw [star]; kernel_rfl) (by kernel_rfl) (by decide) u (by rw [star]; exact h)

/-- an error as errors.New makes it. -/
def errD (text : List UInt8) : DataW Unit := .iface "*errors.errorString" (.ptr (.agg [.lit (.string text)]))

set_option maxRecDepth 100000 in
theorem laid_errs {W : World} : ∀ (l : List (String × DataW Unit)) (ps : List MemPlace), DataW.LaidVars Tryd.prog W l ps → (∀ x ∈ l, (∃ text, x.2 = errD text) ∧ ∃ g, Tryd.prog.globalNamed x.1 = some g ∧ (Tryd.prog.globals[g]?).map (·.type) = some 29) → ps.Nodup →
    (∀ b off, MemPlace.cell b off ∈ ps → (∃ c t, W.heap[b]? = some (.cells c t (0, 0))) ∧ ∀ u v, W.cell? ⟨b, off, none⟩ = some (.iface u v) → Value.okWide Tryd.prog W .any 0 u v) →
    ∃ zs : List Addr, zs.length = l.length ∧ (∀ (i : Nat) (x : String × DataW Unit) (a : Addr), l[i]? = some x → zs[i]? = some a → ∃ g, Tryd.prog.globalNamed x.1 = some g ∧ W.cell? ⟨g, 0, none⟩ = some (errAt a)) ∧ zs.Nodup ∧
      (∀ a ∈ zs, (∃ cs t, W.heap[a.block]? = some (.cells cs t (0, 0))) ∧ MemPlace.cell a.block a.off ∈ ps)
  | [], ps, h, _, _, _ => ⟨[], rfl, by simp, by simp, by simp⟩
  | (n, d) :: r, ps, h, hd, hnd, hrows => by
    obtain ⟨g, t, cs, fuel, p, q, hg, ht, hv, hdat, hr, rfl⟩ := h
    obtain ⟨⟨text, e⟩, g', hg', ht'⟩ := hd (n, d) (by simp)
    simp only at e hg'
    subst e
    obtain rfl := Option.some.inj (hg'.symm.trans hg)
    obtain rfl := Option.some.inj (ht'.symm.trans ht)
    obtain ⟨l0⟩ := cs
    have ok0 : ∀ u v, l0 = [.iface u v] → Value.okWide Tryd.prog W .any 0 u v := fun u v e => by
      subst e
      exact (hrows g' 0 (by simp [MemPlace.row])).2 u v (by simpa using World.var?_cell hg hv 0)
    obtain ⟨a0, s0, rfl, hc0, hs0, hz0, rfl⟩ := errorString_of_trod Tryd.underlying29 rowES Tryd.underlying69 Tryd.underlying86 rfl rfl Tryd.underlying9 cellsES cellsStr hdat ok0
    have hnd2 : q.Nodup := (List.nodup_append.1 hnd).2.1
    obtain ⟨zs, h1, h2, h3, h4⟩ := laid_errs r q hr (fun x hx => hd x (List.mem_cons_of_mem _ hx)) hnd2 (fun b off hp => hrows b off (List.mem_append_right _ hp))
    have hb0 := (hrows a0.block a0.off (by simp [MemPlace.row])).1
    refine ⟨a0 :: zs, by simp [h1], ?_, ?_, ?_⟩
    · intro i x a hx ha
      match i with
      | 0 =>
        simp at hx ha
        subst hx; subst ha
        exact ⟨g', hg', by simpa using World.var?_cell hg hv 0⟩
      | i + 1 => exact h2 i x a (by simpa using hx) (by simpa using ha)
    · rw [List.nodup_cons]
      refine ⟨fun hmem => ?_, h3⟩
      have := (h4 a0 hmem).2
      have hd := (List.nodup_append.1 hnd).2.2
      exact hd (MemPlace.cell a0.block a0.off) (by simp [MemPlace.row]) _ this rfl
    · intro a ha
      rcases List.mem_cons.1 ha with rfl | ha
      · exact ⟨hb0, by simp [MemPlace.row]⟩
      · exact ⟨(h4 a ha).1, List.mem_append_right _ (h4 a ha).2⟩

/-- the names of the sentinels, in their order. -/
def sentNames : List String := ["pledge/api.ErrEnd", "pledge/api.ErrShape", "pledge/api.ErrRange", "pledge/api.ErrOver", "pledge/api.ErrMany", "pledge/api.ErrNone", "pledge/api.ErrThere", "pledge/api.ErrFull", "pledge/api.ErrCrash", "pledge/api.ErrTwice", "pledge/api.ErrKind", "pledge/api.ErrBarred", "pledge/api.ErrShort", "pledge/api.ErrBreach", "pledge/api.ErrNeed", "pledge/api.ErrBound", "pledge/api.ErrDay", "pledge/api.ErrWord", "pledge/api.ErrNumber", "pledge/api.ErrBudget", "pledge/api.ErrNothing"]
end Go.Proofs.YtodhoblacalbiaaDoor
