/-
  From the row's list to the sentinels' places.
-/
import Derived.Test.YtongpgnnhpbcpaaGreatDoorRows
import Derived.Test.YtongpgnnhpbcpaaGreatDoorSee
import Derived.LaidLaws
import Derived.LaidMore
import Derived.LaidSub
import Derived.MakeChecks
namespace Go.Proofs.YtongpgnnhpbcpaaGreatDoor
open Go.ChangeShapes Go.WideShapes Go.RowKit

theorem cellsES : Tryz.prog.cellsOf 151 = 1 := by kernel_rfl
theorem cellsStr : Tryz.prog.cellsOf 9 = 1 := by kernel_rfl
theorem star : "*" ++ "errors.errorString" = "*errors.errorString" := by decide
theorem rowES (u : TypeId) (h : Tryz.prog.typeName? 3 u = some "*errors.errorString") : u = 149 :=
  typeName_ptr_named (nm := "errors.errorString") (by rw [star]; kernel_rfl) (by kernel_rfl) (by decide) u (by rw [star]; exact h)

/-- an error as errors.New makes it. -/
def errD (text : List UInt8) : DataW Unit := .iface "*errors.errorString" (.ptr (.agg [.lit (.string text)]))

set_option maxRecDepth 100000 in
theorem laid_errs {W : World} : ∀ (l : List (String × DataW Unit)) (ps : List MemPlace), DataW.LaidVars Tryz.prog W l ps → (∀ x ∈ l, (∃ text, x.2 = errD text) ∧ ∃ g, Tryz.prog.globalNamed x.1 = some g ∧ (Tryz.prog.globals[g]?).map (·.type) = some 29) → ps.Nodup →
    (∀ b off, MemPlace.cell b off ∈ ps → (∃ c t, W.heap[b]? = some (.cells c t (0, 0))) ∧ ∀ u v, W.cell? ⟨b, off, none⟩ = some (.iface u v) → Value.okWide Tryz.prog W .any 0 u v) →
    ∃ zs : List Addr, zs.length = l.length ∧ (∀ (i : Nat) (x : String × DataW Unit) (a : Addr), l[i]? = some x → zs[i]? = some a → ∃ g, Tryz.prog.globalNamed x.1 = some g ∧ W.cell? ⟨g, 0, none⟩ = some (errAt a)) ∧ zs.Nodup ∧
      (∀ a ∈ zs, (∃ cs t, W.heap[a.block]? = some (.cells cs t (0, 0))) ∧ MemPlace.cell a.block a.off ∈ ps)
  | [], ps, h, _, _, _ => ⟨[], rfl, by simp, by simp, by simp⟩
  | (n, d) :: r, ps, h, hd, hnd, hrows => by
    obtain ⟨g, t, cs, fuel, p, q, hg, ht, hv, hdat, hr, rfl⟩ := h
    obtain ⟨⟨text, e⟩, g', hg', ht'⟩ := hd (n, d) (by simp)
    simp only at e hg'
    subst e
    obtain rfl := Option.some.inj (hg'.symm.trans hg)
    obtain rfl := Option.some.inj (ht'.symm.trans ht)
    obtain ⟨l0⟩ := cs
    have ok0 : ∀ u v, l0 = [.iface u v] → Value.okWide Tryz.prog W .any 0 u v := fun u v e => by
      subst e
      exact (hrows g' 0 (by simp [MemPlace.row])).2 u v (by simpa using World.var?_cell hg hv 0)
    obtain ⟨a0, s0, rfl, hc0, hs0, hz0, rfl⟩ := errorString_of_trod Tryz.underlying29 rowES Tryz.underlying149 Tryz.underlying151 rfl rfl Tryz.underlying9 cellsES cellsStr hdat ok0
    have hnd2 : q.Nodup := (List.nodup_append.1 hnd).2.1
    obtain ⟨zs, h1, h2, h3, h4⟩ := laid_errs r q hr (fun x hx => hd x (List.mem_cons_of_mem _ hx)) hnd2 (fun b off hp => hrows b off (List.mem_append_right _ hp))
    have hb0 := (hrows a0.block a0.off (by simp [MemPlace.row])).1
    refine ⟨a0 :: zs, by simp [h1], ?_, ?_, ?_⟩
    · intro i x a hx ha
      match i with
      | 0 =>
        simp at hx ha
        subst hx; subst ha
        exact ⟨g', hg', by simpa using World.var?_cell hg hv 0⟩
      | i + 1 => exact h2 i x a (by simpa using hx) (by simpa using ha)
    · rw [List.nodup_cons]
      refine ⟨fun hmem => ?_, h3⟩
      have := (h4 a0 hmem).2
      have hd := (List.nodup_append.1 hnd).2.2
      exact hd (MemPlace.cell a0.block a0.off) (by simp [MemPlace.row]) _ this rfl
    · intro a ha
      rcases List.mem_cons.1 ha with rfl | ha
      · exact ⟨hb0, by simp [MemPlace.row]⟩
      · exact ⟨(h4 a ha).1, List.mem_append_right _ (h4 a ha).2⟩

/-- the names of the sentinels, in their order. -/
def sentNames : List String := ["pledge/api.ErrEnd", "pledge/api.ErrShape", "pledge/api.ErrRange", "pledge/api.ErrOver", "pledge/api.ErrMany", "pledge/api.ErrNone", "pledge/api.ErrThere", "pledge/api.ErrFull", "pledge/api.ErrCrash", "pledge/api.ErrTwice", "pledge/api.ErrKind", "pledge/api.ErrBarred", "pledge/api.ErrShort", "pledge/api.ErrBreach", "pledge/api.ErrNeed", "pledge/api.ErrBound", "pledge/api.ErrDay", "pledge/api.ErrWord", "pledge/api.ErrNumber", "pledge/api.ErrBudget", "pledge/api.ErrNothing"]
theorem sent_named : sentNames.map Tryz.prog.globalNamed = sentG.map some :=
  (fun _ => by kernel_rfl : _ → _) sentAll
theorem sent_types : (sentG.all fun g => decide ((Tryz.prog.globals[g]?).map (·.type) = some 29)) = true :=
  (fun _ => by kernel_rfl : _ → _) sentAll

/-- Where the row lists the sentinels, in their order. -/
theorem sents_of_laid {W : World} {l : List (String × DataW Unit)} (h : laidMetH Tryz.prog l W) (hn : l.map (·.1) = sentNames) (hd : ∀ x ∈ l, ∃ text, x.2 = errD text) : ∃ A, Sents W A := by
  have hp : (l.all fun x => x.2.handleName?.isNone) = true := by
    rw [List.all_eq_true]
    intro x hx
    obtain ⟨text, e⟩ := hd x hx
    rw [e]; rfl
  rw [MakeChecks.laidMetH_plain _ _ _ hp] at h
  obtain ⟨ps, h1, h2, h3⟩ := h
  have hlen : l.length = 21 := by rw [← List.length_map (f := (·.1)), hn]; rfl
  have hG : ∀ i x, l[i]? = some x → Tryz.prog.globalNamed x.1 = some (sentG.getD i 0) ∧ (Tryz.prog.globals[sentG.getD i 0]?).map (·.type) = some 29 := fun i x hx => by
    have hi : i < 21 := by rw [← hlen]; exact (List.getElem?_eq_some_iff.1 hx).1
    have e1 : (sentNames.map Tryz.prog.globalNamed)[i]? = (sentG.map some)[i]? := by rw [sent_named]
    rw [← hn, List.map_map, List.getElem?_map, hx, List.getElem?_map, List.getElem?_eq_getElem (show i < sentG.length from hi)] at e1
    have e2 : Tryz.prog.globalNamed x.1 = some (sentG.getD i 0) := by
      rw [List.getD_eq_getElem?_getD, List.getElem?_eq_getElem (show i < sentG.length from hi)]
      simpa using e1
    refine ⟨e2, ?_⟩
    have := List.all_eq_true.1 sent_types (sentG.getD i 0) (by rw [List.getD_eq_getElem?_getD, List.getElem?_eq_getElem (show i < sentG.length from hi)]; exact List.getElem_mem _)
    exact of_decide_eq_true this
  obtain ⟨zs, g1, g2, g3, g4⟩ := laid_errs l ps h1 (fun x hx => ⟨hd x hx, by
    obtain ⟨i, hi, e⟩ := List.getElem_of_mem hx
    obtain ⟨q1, q2⟩ := hG i x (by rw [List.getElem?_eq_getElem hi, e])
    exact ⟨_, q1, q2⟩⟩) h2 h3
  have has : zs.length = 21 := by omega
  refine ⟨fun i => zs.getD i ⟨0, 0, none⟩, ?_, ?_, ?_⟩
  · intro i hi
    have e1 : l[i]? = some l[i] := List.getElem?_eq_getElem (by omega)
    have e2 : zs[i]? = some zs[i] := List.getElem?_eq_getElem (by omega)
    obtain ⟨g, q1, q2⟩ := g2 i _ _ e1 e2
    have q3 := (hG i _ e1).1
    obtain rfl := Option.some.inj (q1.symm.trans q3)
    rw [q2, List.getD_eq_getElem?_getD, e2]; rfl
  · intro i j hi hj e
    rw [List.getD_eq_getElem?_getD, List.getD_eq_getElem?_getD, List.getElem?_eq_getElem (by omega), List.getElem?_eq_getElem (by omega)] at e
    have hp := List.pairwise_iff_getElem.1 g3
    rcases Nat.lt_trichotomy i j with h | h | h
    · exact absurd e (hp i j (by omega) (by omega) h)
    · exact h
    · exact absurd e.symm (hp j i (by omega) (by omega) h)
  · intro i hi
    refine (g4 _ ?_).1
    rw [List.getD_eq_getElem?_getD, List.getElem?_eq_getElem (by omega)]
    exact List.getElem_mem _

/-- Where the row lists the three errors of wire alone. -/
theorem errs3_of_laid {W : World} {l : List (String × DataW Unit)} (h : laidMetH Tryz.prog l W) (hn : l.map (·.1) = ["pledge/api.ErrEnd", "pledge/api.ErrShape", "pledge/api.ErrRange"]) (hd : ∀ x ∈ l, ∃ text, x.2 = errD text) :
    ∃ A : Nat → Addr, W.cell? ⟨7, 0, none⟩ = some (errAt (A 0)) ∧ W.cell? ⟨4, 0, none⟩ = some (errAt (A 1)) ∧ W.cell? ⟨0, 0, none⟩ = some (errAt (A 2)) := by
  have hp : (l.all fun x => x.2.handleName?.isNone) = true := by
    rw [List.all_eq_true]
    intro x hx
    obtain ⟨text, e⟩ := hd x hx
    rw [e]; rfl
  rw [MakeChecks.laidMetH_plain _ _ _ hp] at h
  obtain ⟨ps, h1, h2, h3⟩ := h
  match l, hn with
  | [(n0, d0), (n1, d1), (n2, d2)], hn =>
    simp only [List.map_cons, List.map_nil, List.cons.injEq, and_true] at hn
    obtain ⟨rfl, rfl, rfl⟩ := hn
    have k0 : Tryz.prog.globalNamed "pledge/api.ErrEnd" = some 7 ∧ (Tryz.prog.globals[7]?).map (·.type) = some 29 := ⟨by kernel_rfl, by kernel_rfl⟩
    have k1 : Tryz.prog.globalNamed "pledge/api.ErrShape" = some 4 ∧ (Tryz.prog.globals[4]?).map (·.type) = some 29 := ⟨by kernel_rfl, by kernel_rfl⟩
    have k2 : Tryz.prog.globalNamed "pledge/api.ErrRange" = some 0 ∧ (Tryz.prog.globals[0]?).map (·.type) = some 29 := ⟨by kernel_rfl, by kernel_rfl⟩
    obtain ⟨zs, g1, g2, g3, g4⟩ := laid_errs _ ps h1 (fun x hx => ⟨hd x hx, by
      simp only [List.mem_cons, List.not_mem_nil, or_false] at hx
      rcases hx with rfl | rfl | rfl
      · exact ⟨_, k0⟩
      · exact ⟨_, k1⟩
      · exact ⟨_, k2⟩⟩) h2 h3
    match zs, g1 with
    | [z0, z1, z2], _ =>
      obtain ⟨q0, e0, c0⟩ := g2 0 _ z0 rfl rfl
      obtain ⟨q1, e1, c1⟩ := g2 1 _ z1 rfl rfl
      obtain ⟨q2, e2, c2⟩ := g2 2 _ z2 rfl rfl
      obtain rfl := Option.some.inj (k0.1.symm.trans e0)
      obtain rfl := Option.some.inj (k1.1.symm.trans e1)
      obtain rfl := Option.some.inj (k2.1.symm.trans e2)
      exact ⟨fun i => [z0, z1, z2].getD i z0, c0, c1, c2⟩
end Go.Proofs.YtongpgnnhpbcpaaGreatDoor
