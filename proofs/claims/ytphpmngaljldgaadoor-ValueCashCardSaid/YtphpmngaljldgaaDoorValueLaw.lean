/-
  The chapter's example.
-/
import Derived.Test.YtphpmngaljldgaaDoorValue2
import Derived.Outline
namespace Go.Proofs.YtphpmngaljldgaaDoor
open Go.RowKit
set_option linter.unusedVariables false

theorem tmBig_of {y : Tm} (h : (-9223372036854775808 ≤ y.t ∧ y.t ≤ 9223372036854775807) ∧ (-9223372036854775808 ≤ y.o ∧ y.o ≤ 9223372036854775807) ∧ (-9223372036854775808 ≤ y.p ∧ y.p ≤ 9223372036854775807) ∧ (-9223372036854775808 ≤ y.r ∧ y.r ≤ 9223372036854775807) ∧ (-9223372036854775808 ≤ y.c ∧ y.c ≤ 9223372036854775807)) : TmBig y := h
/-- within bounds: the steps of what is worth something. -/
theorem steps_fine {a : As} {q : Int} {y : Tm} {x b l : Int} (h1 : win q 1000000000000 = true) (h2 : win (prV a y.p) 1000000000 = true) (h3 : win y.r 1000000000 = true) (h4 : win y.c 10000 = true)
    (hx : q * prV a y.p / 10000 = x) (hb : x * y.r / 1000000 = b) (hl : b * (10000 - y.c) / 10000 = l) (x0 : 0 ≤ x) (x1 : x ≤ 1000000000000000) (b0 : 0 ≤ b) (b1 : b ≤ 1000000000000000) (l0 : 0 ≤ l) (l1 : l ≤ 1000000000000000) :
    vaC a q y = 0 ∧ vaS a q y = ⟨x, b, if cnB a y = true then l else 0⟩ := by
  have e1 : w1V a q y = x ∧ w1C a q y = 0 := by
    have := cap_fine (a := q) (b := prV a y.p) (c := 10000) (up := false) (by omega) (by rw [divq_down, hx]; exact x0) (by rw [divq_down, hx]; exact x1)
    rw [divq_down, hx] at this
    unfold w1V w1C
    rw [h1, h2]
    exact this
  have e2 : b1V a q y = b ∧ b1C a q y = 0 := by
    have := cap_fine (a := x) (b := y.r) (c := 1000000) (up := false) (by omega) (by rw [divq_down, hb]; exact b0) (by rw [divq_down, hb]; exact b1)
    rw [divq_down, hb] at this
    unfold b1V b1C
    rw [e1.1, h3, win_mk x0 x1]
    exact this
  have e3 : l1V a q y = l ∧ l1C a q y = 0 := by
    have := cap_fine (a := b) (b := 10000 - y.c) (c := 10000) (up := false) (by omega) (by rw [divq_down, hl]; exact l0) (by rw [divq_down, hl]; exact l1)
    rw [divq_down, hl] at this
    unfold l1V l1C
    rw [e2.1, h4, win_mk b0 b1]
    exact this
  have hc : vaC a q y = 0 := by
    unfold vaC
    rw [if_pos e1.2, if_pos e2.2]
    split
    · exact e3.2
    · rfl
  refine ⟨hc, ?_⟩
  unfold vaS
  rw [if_pos hc, e1.1, e2.1, e3.1]
/-- Of, within bounds. -/
theorem of_fine15 (A : Nat → Addr) (a : As) (q : Int) (y : Tm) (w : World) {x b l : Int} (hE : ErrsOn [2, 3] w A) (ha : AsBig a) (hy : TmBig y) (h1 : 0 ≤ q ∧ q ≤ 1000000000000) (h2 : 0 ≤ prV a y.p ∧ prV a y.p ≤ 1000000000) (h3 : 0 ≤ y.r ∧ y.r ≤ 1000000000) (h4 : 0 ≤ y.c ∧ y.c ≤ 10000)
    (hx : q * prV a y.p / 10000 = x) (hb : x * y.r / 1000000 = b) (hl : b * (10000 - y.c) / 10000 = l) (x0 : 0 ≤ x ∧ x ≤ 1000000000000000) (b0 : 0 ≤ b ∧ b ≤ 1000000000000000) (l0 : 0 ≤ l ∧ l ≤ 1000000000000000) :
    Calls Tryd.prog 8 #[asA a, .int .i64 q, tmA y] w fun e w' => e = .returned (.tuple #[vsA ⟨x, b, if cnB a y = true then l else 0⟩, .nilIface]) ∧ Below w.heap.size w w' := by
  have h := valueOf_any A a q y w hE ha (by omega) hy
  obtain ⟨e1, e2⟩ := steps_fine (a := a) (q := q) (y := y) (win_mk h1.1 h1.2) (win_mk h2.1 h2.2) (win_mk h3.1 h3.2) (win_mk h4.1 h4.2) hx hb hl x0.1 x0.2 b0.1 b0.2 l0.1 l0.2
  rw [e1, e2, errOf_fine] at h
  exact h
theorem AsAt.frozen {w : World} {g : Nat} {a : As} (h : AsAt w g a) (j : Nat) : w.frozen? ⟨g, j, none⟩ = false := by
  have := h.row
  simp [World.frozen?, this]
theorem AsAt.put3 {w : World} {g : Nat} {a : As} (h : AsAt w g a) (x : Int) : AsAt (w.setCell ⟨g, 3, none⟩ (.int .i64 x)) g ⟨a.i, a.s, a.c, x, a.e⟩ := ⟨by rw [heap_setCell_row h.row]; rfl⟩
theorem AsAt.put4 {w : World} {g : Nat} {a : As} (h : AsAt w g a) (x : Int) : AsAt (w.setCell ⟨g, 4, none⟩ (.int .i64 x)) g ⟨a.i, a.s, a.c, a.m, x⟩ := ⟨by rw [heap_setCell_row h.row]; rfl⟩
theorem StAt.set {w : World} {g h o : Nat} {v : Value} {t : TypeId} {s : StT} (hs : StAt w g t s) (hn : g ≠ h) : StAt (w.setCell ⟨h, o, none⟩ v) g t s := ⟨by rw [Below.heap_setCell _ _ _ _ (by exact hn)]; exact hs.row⟩
theorem TmAt.set {w : World} {g h o : Nat} {v : Value} {t : TypeId} {s : Tm} (hs : TmAt w g t s) (hn : g ≠ h) : TmAt (w.setCell ⟨h, o, none⟩ v) g t s := ⟨by rw [Below.heap_setCell _ _ _ _ (by exact hn)]; exact hs.row⟩
theorem AsAt.set {w : World} {g h o : Nat} {v : Value} {s : As} (hs : AsAt w g s) (hn : g ≠ h) : AsAt (w.setCell ⟨h, o, none⟩ v) g s := ⟨by rw [Below.heap_setCell _ _ _ _ (by exact hn)]; exact hs.row⟩
theorem law15_first (A : Nat → Addr) (w : World) (hE : ErrsOn [2, 3] w A) : Calls Tryd.prog 7 #[] w fun e w' => e = .returned (.bool true) ∧ Below w.heap.size w w' := by
  have h := valueOf_any A ⟨1, 0, 1, 1, 0⟩ 5 ⟨0, 0, false, 0, 1000000, 0⟩ w hE (by unfold AsBig; simp) (by omega) (by unfold TmBig; simp)
  obtain ⟨e1, e2⟩ := steps_fine (a := ⟨1, 0, 1, 1, 0⟩) (q := 5) (y := ⟨0, 0, false, 0, 1000000, 0⟩) (x := 5) (b := 5) (l := 5) (by decide) (by decide) (by decide) (by decide) (by decide) (by decide) (by decide) (by decide) (by decide) (by decide) (by decide) (by decide) (by decide)
  rw [e1, e2, errOf_fine, if_neg (by decide)] at h
  replace h := hidden h
  clear e1 e2 hE
  go_enter Tryd.func7, Tryd.ntmps7
  go_wp2_with fail
  refine h.out.mono ?_
  rintro e w1 ⟨rfl, hb⟩
  have hb1 := hidden (hb.alloc hb.size (stO stTy ⟨5, 5, 0⟩))
  clear hb h
  go_wp2_with fail
  go_ret
  exact ⟨rfl, hb1.out⟩
end Go.Proofs.YtphpmngaljldgaaDoor
