/-
  A ladder of the statement's own, one line a call; the chapter's example.
-/
import Derived.Test.YthlepeeejmeahaaDoorCut5
import Derived.Test.YthlepeeejmeahaaDoorNumber
namespace Go.Proofs.YthlepeeejmeahaaDoor
open Go.RowKit Go.Maps
set_option linter.unusedVariables false

section
variable {A : Nat → Addr} {w0 W : World} {g n : Nat} {T : StepT → Option Int} {fx : Int}
theorem lset12 (hb : Below w0.heap.size w0 W) (hL : LadAt W w0.heap.size g n T fx) (hn : n < 1000000) (hE : ErrsOn [2] w0 A) (s : StepT) (x : Int) :
    Calls Tryd.prog 9 #[.pointer (some ⟨g, 0, none⟩), stpV s, .int .i64 x] W fun r w' => r = .returned (errOf A (setC s x)) ∧ LadAt w' w0.heap.size g (n + 1) (setT T s x) fx ∧ Below w0.heap.size w0 w' :=
  (set_anyC A W w0.heap.size g n T fx hL hb.size hn s x (hE.below hb (Nat.le_refl _))).mono fun r w' h => ⟨h.1, h.2.1, hb.trans (hL.keeps h.2.2 hb.size)⟩
/-- .. and a step in a block of its own stays. -/
theorem lsetT12 (hb : Below w0.heap.size w0 W) (hL : LadAt W w0.heap.size g n T fx) (hn : n < 1000000) (hE : ErrsOn [2] w0 A) (s : StepT) (x : Int) :
    Calls Tryd.prog 9 #[.pointer (some ⟨g, 0, none⟩), stpV s, .int .i64 x] W fun r w' => r = .returned (errOf A (setC s x)) ∧ LadAt w' w0.heap.size g (n + 1) (setT T s x) fx ∧ Below w0.heap.size w0 w' ∧
      ∀ k o, k ≠ g → W.heap[k]? = some (stpO o) → w'.heap[k]? = some (stpO o) :=
  (set_anyC A W w0.heap.size g n T fx hL hb.size hn s x (hE.below hb (Nat.le_refl _))).mono fun r w' h => ⟨h.1, h.2.1, hb.trans (hL.keeps h.2.2 hb.size), fun k o hk hr => by
    rw [h.2.2.block k (Array.getElem?_eq_some_iff.1 hr).1 (fun q => by
      rcases (hL.blocks q).2.2 with e | ⟨es, c, e⟩
      · exact hk e
      · rw [hr] at e; cases e)]
    exact hr⟩
theorem lsetFx12 (hb : Below w0.heap.size w0 W) (hL : LadAt W w0.heap.size g n T fx) (hE : ErrsOn [2] w0 A) (x : Int) :
    Calls Tryd.prog 11 #[.pointer (some ⟨g, 0, none⟩), .int .i64 x] W fun r w' => r = .returned (errOf A (fxC x)) ∧ LadAt w' w0.heap.size g n T (fxN fx x) ∧ Below w0.heap.size w0 w' :=
  (setFx_any A W w0.heap.size g n T fx hL x (hE.below hb (Nat.le_refl _))).mono fun r w' h => ⟨h.1, h.2.1, hb.trans (hL.keeps h.2.2 hb.size)⟩
theorem lof12 (hb : Below w0.heap.size w0 W) (hL : LadAt W w0.heap.size g n T fx) (hE : ErrsOn [2] w0 A) (hEnd : EndsOn w0) (a : As) (t : Int) (h3 : -9223372036854775808 ≤ t) (h4 : t ≤ 9223372036854775807) :
    Calls Tryd.prog 18 #[.pointer (some ⟨g, 0, none⟩), asA a, .int .i64 t] W fun r w' => r = .returned (.int .i64 (cutV T fx a t)) ∧ LadAt w' w0.heap.size g n T fx ∧ Below w0.heap.size w0 w' ∧ Below W.heap.size W w' :=
  (of_anyC A W w0.heap.size g n T fx hL a t h3 h4 (hE.below hb (Nat.le_refl _)) (hEnd.below hb (Nat.le_refl _))).mono fun r w' h => ⟨h.1, hL.below h.2 (Nat.le_refl _), hb.trans (h.2.mono hb.size), h.2⟩
theorem lget12 (hb : Below w0.heap.size w0 W) (hL : LadAt W w0.heap.size g n T fx) (s : StepT) (hs : stIn s) :
    Calls Tryd.prog 14 #[.pointer (some ⟨g, 0, none⟩), stpV s] W fun r w' => r = .returned (.int .i64 (getT T s)) ∧ LadAt w' w0.heap.size g n T fx ∧ Below w0.heap.size w0 w' ∧ Below W.heap.size W w' :=
  (get_anyC W w0.heap.size g n T fx hL s hs).mono fun r w' h => ⟨h.1, hL.below h.2 (Nat.le_refl _), hb.trans (h.2.mono hb.size), h.2⟩
theorem lfx12 (hb : Below w0.heap.size w0 W) (hL : LadAt W w0.heap.size g n T fx) :
    Calls Tryd.prog 16 #[.pointer (some ⟨g, 0, none⟩)] W fun r w' => r = .returned (.int .i64 fx) ∧ LadAt w' w0.heap.size g n T fx ∧ Below w0.heap.size w0 w' ∧ Below W.heap.size W w' :=
  (fx_any W w0.heap.size g n T fx hL).mono fun r w' h => ⟨h.1, hL.below h.2 (Nat.le_refl _), hb.trans (h.2.mono hb.size), h.2⟩
theorem lall12 (hb : Below w0.heap.size w0 W) (hL : LadAt W w0.heap.size g n T fx) :
    Calls Tryd.prog 13 #[.pointer (some ⟨g, 0, none⟩)] W fun r w' => (∃ v, r = .returned v ∧ OwnSt W.heap.size w' v (allS T)) ∧ LadAt w' w0.heap.size g n T fx ∧ Below w0.heap.size w0 w' ∧ Below W.heap.size W w' :=
  (all_anyC W w0.heap.size g n T fx hL).mono fun r w' ⟨v, h1, h2, h3⟩ => ⟨⟨v, h1, h2⟩, hL.below h3 (Nat.le_refl _), hb.trans (h3.mono hb.size), h3⟩
/-- a new ladder, behind what was there. -/
theorem lnew12 (hb : Below w0.heap.size w0 W) : LadAt (W.alloc (.cells #[.map none, .int .i64 0] 28)) w0.heap.size W.heap.size 0 noT 0 ∧ Below w0.heap.size w0 (W.alloc (.cells #[.map none, .int .i64 0] 28)) :=
  ⟨(ladAt_new W).base hb.size, hb.alloc hb.size _⟩
end
theorem stp_cells {w : World} {k : Nat} {c d : Int} (h : w.heap[k]? = some (stpO (c, d))) : w.cell? ⟨k, 0, none⟩ = some (.int .i64 c) ∧ w.cell? ⟨k, 1, none⟩ = some (.int .i64 d) :=
  ⟨by rw [cell_of_row _ _ _ _ _ _ h]; rfl, by rw [cell_of_row _ _ _ _ _ _ h]; rfl⟩
theorem stp_below {w w' : World} {k : Nat} {o : StepT} (h : w.heap[k]? = some (stpO o)) (hb : Below w.heap.size w w') : w'.heap[k]? = some (stpO o) := (hb.block _ (Array.getElem?_eq_some_iff.1 h).1).trans h
set_option maxHeartbeats 1600000 in
theorem law12_first (A : Nat → Addr) (w : World) (hE : ErrsOn [2] w A) (hEnd : EndsOn w) : Calls Tryd.prog 7 #[] w fun e w' => e = .returned (.bool true) ∧ Below w.heap.size w w' := by
  have hn := hidden (lnew12 (Below.refl w.heap.size w))
  have hE' := hidden hE
  have hEnd' := hidden hEnd
  clear hE hEnd
  go_enter Tryd.func7, Tryd.ntmps7
  go_wp2_with fail
  obtain ⟨hL, hb⟩ := hn.out
  refine (lof12 hb hL hE'.out hEnd'.out ⟨1, 0, 1, 1, 0⟩ 5 (by decide) (by decide)).mono ?_
  rintro r w1 ⟨rfl, hL1, hb1, _⟩
  have e1 : cutV noT 0 ⟨1, 0, 1, 1, 0⟩ 5 = 0 := by decide
  clear hn hL hb
  replace hL1 := hidden hL1
  replace hb1 := hidden hb1
  rw [e1]
  clear e1
  go_wp2_with fail
  refine (lset12 hb1.out hL1.out (by decide) hE'.out (1, 0) 7).mono ?_
  rintro r w2 ⟨rfl, hL2, hb2⟩
  have e1 : errOf A (setC (1, 0) 7) = .nilIface := rfl
  replace hL2 := hidden hL2
  replace hb2 := hidden hb2
  clear hL1 hb1
  rw [e1]
  clear e1
  go_wp2_with fail
  refine (lof12 hb2.out hL2.out hE'.out hEnd'.out ⟨1, 0, 1, 1, 0⟩ 5 (by decide) (by decide)).mono ?_
  rintro r w3 ⟨rfl, hL3, hb3, _⟩
  have e1 : cutV (setT noT (1, 0) 7) 0 ⟨1, 0, 1, 1, 0⟩ 5 = 7 := by decide
  replace hb3 := hidden hb3
  clear hL2 hb2 hL3
  rw [e1]
  clear e1
  go_wp2
  go_ret
  exact ⟨rfl, hb3.out⟩
end Go.Proofs.YthlepeeejmeahaaDoor
