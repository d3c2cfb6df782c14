/-
  From a row that lists some of the sentinels to their places.
-/
import Derived.Test.YtongpgnnhpbcpaaGreatDoorLaid
import Derived.Test.YtongpgnnhpbcpaaGreatDoorSee
namespace Go.Proofs.YtongpgnnhpbcpaaGreatDoor
open Go.ChangeShapes Go.WideShapes Go.RowKit

/-- Some sentinels are there, each of them another one. -/
structure SentsOn (js : List Nat) (w : World) (A : Nat → Addr) : Prop where
  on : ErrsOn js w A
  apart : ∀ i j, i ∈ js → j ∈ js → A i = A j → i = j
  block : ∀ i, i ∈ js → ∃ cs t, w.heap[(A i).block]? = some (.cells cs t (0, 0))

theorem sent_at {js : List Nat} (h : (js.all fun i => decide (i < 21) && decide (Tryz.prog.globalNamed (sentNames.getD i "") = some (sentG.getD i 0)) && decide ((Tryz.prog.globals[sentG.getD i 0]?).map (·.type) = some 29)) = true) (i : Nat) (hi : i ∈ js) : Tryz.prog.globalNamed (sentNames.getD i "") = some (sentG.getD i 0) ∧ (Tryz.prog.globals[sentG.getD i 0]?).map (·.type) = some 29 := by
  have := List.all_eq_true.1 h i hi
  simp only [Bool.and_eq_true, decide_eq_true_iff] at this
  exact ⟨this.1.2, this.2⟩

/-- Where the row lists some of the sentinels, by their numbers. -/
theorem sentsOn_of_laid {W : World} {l : List (String × DataW Unit)} (js : List Nat) (h : laidMetH Tryz.prog l W) (hn : l.map (·.1) = js.map fun i => sentNames.getD i "") (hj : (js.all fun i => decide (i < 21) && decide (Tryz.prog.globalNamed (sentNames.getD i "") = some (sentG.getD i 0)) && decide ((Tryz.prog.globals[sentG.getD i 0]?).map (·.type) = some 29)) = true) (hd : ∀ x ∈ l, ∃ text, x.2 = errD text) : ∃ A, SentsOn js W A := by
  have hp : (l.all fun x => x.2.handleName?.isNone) = true := by
    rw [List.all_eq_true]
    intro x hx
    obtain ⟨text, e⟩ := hd x hx
    rw [e]; rfl
  rw [MakeChecks.laidMetH_plain _ _ _ hp] at h
  obtain ⟨ps, h1, h2, h3⟩ := h
  have hlen : l.length = js.length := by rw [← List.length_map (f := (·.1)), hn, List.length_map]
  have hG : ∀ (k : Nat) x (i : Nat), l[k]? = some x → js[k]? = some i → Tryz.prog.globalNamed x.1 = some (sentG.getD i 0) ∧ (Tryz.prog.globals[sentG.getD i 0]?).map (·.type) = some 29 := fun k x i hx hi => by
    have e1 : (l.map (·.1))[k]? = (js.map fun i => sentNames.getD i "")[k]? := by rw [hn]
    rw [List.getElem?_map, hx, List.getElem?_map, hi] at e1
    have e2 : x.1 = sentNames.getD i "" := by simpa using e1
    rw [e2]
    exact sent_at hj i (List.mem_of_getElem? hi)
  obtain ⟨zs, g1, g2, g3, g4⟩ := laid_errs l ps h1 (fun x hx => ⟨hd x hx, by
    obtain ⟨k, hk, e⟩ := List.getElem_of_mem hx
    obtain ⟨q1, q2⟩ := hG k x (js[k]'(by omega)) (by rw [List.getElem?_eq_getElem hk, e]) (List.getElem?_eq_getElem (by omega))
    exact ⟨_, q1, q2⟩⟩) h2 h3
  have hz : zs.length = js.length := by omega
  have hat : ∀ i ∈ js, ∃ h : js.idxOf i < zs.length, js[js.idxOf i]? = some i ∧ zs.getD (js.idxOf i) ⟨0, 0, none⟩ = zs[js.idxOf i] := fun i hi => by
    have hk := List.idxOf_lt_length_iff.2 hi
    refine ⟨by omega, ?_, ?_⟩
    · rw [List.getElem?_eq_getElem hk, List.getElem_idxOf]
    · rw [List.getD_eq_getElem?_getD, List.getElem?_eq_getElem (by omega)]; rfl
  refine ⟨fun i => zs.getD (js.idxOf i) ⟨0, 0, none⟩, ?_, ?_, ?_⟩
  · intro i hi
    obtain ⟨hk, e0, e⟩ := hat i hi
    have e1 : l[js.idxOf i]? = some l[js.idxOf i] := List.getElem?_eq_getElem (by omega)
    obtain ⟨g, q1, q2⟩ := g2 _ _ _ e1 (List.getElem?_eq_getElem hk)
    have q3 := (hG _ _ i e1 e0).1
    obtain rfl := Option.some.inj (q1.symm.trans q3)
    rw [q2]
    show some (errAt zs[js.idxOf i]) = some (errAt (zs.getD (js.idxOf i) ⟨0, 0, none⟩))
    rw [e]
  · intro i j hi hj2 e
    obtain ⟨hk, e0, e1⟩ := hat i hi
    obtain ⟨hk2, e2, e3⟩ := hat j hj2
    simp only [e1, e3] at e
    have hp := List.pairwise_iff_getElem.1 g3
    have main : js.idxOf i = js.idxOf j := by
      rcases Nat.lt_trichotomy (js.idxOf i) (js.idxOf j) with h | h | h
      · exact absurd e (hp _ _ hk hk2 h)
      · exact h
      · exact absurd e.symm (hp _ _ hk2 hk h)
    rw [main, e2] at e0
    exact (Option.some.inj e0).symm
  · intro i hi
    obtain ⟨hk, e0, e1⟩ := hat i hi
    show ∃ cs t, W.heap[(zs.getD (js.idxOf i) ⟨0, 0, none⟩).block]? = _
    rw [e1]
    exact (g4 _ (List.getElem_mem _)).1
theorem SentsOn.all {js : List Nat} {w : World} {A : Nat → Addr} (h : SentsOn js w A) (hj : ∀ i, i < 21 → i ∈ js) : Sents w A where
  cell := fun i hi => h.on i (hj i hi)
  apart := fun i j hi hk => h.apart i j (hj i hi) (hj j hk)
  block := fun i hi => h.block i (hj i hi)
theorem SentsOn.same {js : List Nat} {w w' : World} {A : Nat → Addr} (h : SentsOn js w A) (hb : ∀ i, i < w.heap.size → w'.heap[i]? = w.heap[i]?) : SentsOn js w' A where
  on := h.on.same hb
  apart := h.apart
  block := fun i hi => by
    obtain ⟨cs, t, hc⟩ := h.block i hi
    exact ⟨cs, t, by rw [hb _ (Array.getElem?_eq_some_iff.1 hc).1]; exact hc⟩
theorem SentsOn.below {js : List Nat} {w w' : World} {A : Nat → Addr} {B : Nat} (h : SentsOn js w A) (hb : Below B w w') (hB : w.heap.size ≤ B) : SentsOn js w' A := h.same fun i hi => hb.block i (by omega)
end Go.Proofs.YtongpgnnhpbcpaaGreatDoor
