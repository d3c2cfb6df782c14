/-
  Which lot costs more for what it is worth; the places in that order: slices.SortStableFunc of at most twenty.
-/
import Derived.Test.YtaojahjgfgmpfaaDoorLots5
import Derived.Test.YtaojahjgfgmpfaaDoorSums
import Derived.Test.YtaojahjgfgmpfaaDoorTake
namespace Go.Proofs.YtaojahjgfgmpfaaDoor
open Go.RowKit
set_option linter.unusedVariables false

def cmpR (a b : Lt) : Int := if a.v = 0 ∨ b.v = 0 then cmpv b.v a.v else cmpv (a.c * b.v) (b.c * a.v)
theorem cmpv_neg (x y : Int) : cmpv x y < 0 ↔ x < y := by
  unfold cmpv
  split
  · omega
  · split <;> omega
theorem cmpR_neg {a b : Lt} (ha : 0 ≤ a.v) (hb : 0 ≤ b.v) : decide (cmpR a b < 0) = dear b a := by
  unfold cmpR dear
  rw [Bool.eq_iff_iff]
  by_cases h : a.v = 0 ∨ b.v = 0
  · rw [if_pos h, if_pos h.symm, decide_eq_true_iff, decide_eq_true_iff, cmpv_neg]
    omega
  · rw [if_neg h, if_neg (fun q => h q.symm), decide_eq_true_iff, decide_eq_true_iff, cmpv_neg]
theorem cmpR_bd (a b : Lt) : -1 ≤ cmpR a b ∧ cmpR a b ≤ 1 := by
  unfold cmpR cmpv
  split <;> (split <;> (try split)) <;> omega
theorem ltBox2 {w W : World} {a b : Lt} (hb : Below ((w.alloc (ltO a)).alloc (ltO b)).heap.size ((w.alloc (ltO a)).alloc (ltO b)) W) : LotAt W w.heap.size 0 a ∧ LotAt W (w.heap.size + 1) 0 b := by
  have e1 : (w.alloc (ltO a)).heap.size = w.heap.size + 1 := by simp
  refine ⟨ltBox ((below_lt (w.alloc (ltO a)) b).trans (hb.mono (by simp))), ?_⟩
  have := ltBox (w := w.alloc (ltO a)) hb
  rwa [e1] at this
set_option maxHeartbeats 1600000 in
theorem rates_any (a b : Lt) (w : World) (ha : ltBig a) (hb : ltBig b) :
    Calls Tryd.prog 85 #[ltA a, ltA b] w fun e w' => e = .returned (.int .i64 (cmpR a b)) ∧ Below w.heap.size w w' := by
  have hb0 := hidden ((below_lt w a).trans ((below_lt (w.alloc (ltO a)) b).mono (by simp)) : Below w.heap.size w ((w.alloc (ltO a)).alloc (ltO b)))
  unfold ltBig at ha hb
  have hI := hidden (fun W => cmpI_any b.v a.v W)
  have hC := hidden (fun W => fixCmp_any a.c b.v b.c a.v W (by omega) (by omega) (by omega) (by omega) (by omega) (by omega) (by omega) (by omega))
  unfold cmpR
  by_cases h1 : a.v = 0
  · rw [if_pos (.inl h1)]
    obtain ⟨au, av, ac, ag⟩ := a
    obtain ⟨bu, bv, bc, bg⟩ := b
    simp only at h1 hI
    subst h1
    simp only
    clear hC
    go_enter Tryd.func85, Tryd.ntmps85
    go_wp2_with (go_at_call 71; (with_reducible refine (hI.out _).mono ?_); rintro e w' ⟨rfl, rfl⟩)
    go_ret
    exact ⟨rfl, hb0.out⟩
  · have n1 : (a.v == 0) = false := by rw [beq_eq_false_iff_ne]; exact h1
    by_cases h2 : b.v = 0
    · rw [if_pos (.inr h2)]
      obtain ⟨au, av, ac, ag⟩ := a
      obtain ⟨bu, bv, bc, bg⟩ := b
      simp only at h1 h2 hI n1
      subst h2
      simp only
      clear hC h1
      go_enter Tryd.func85, Tryd.ntmps85
      go_wp2_with (go_at_call 71; (with_reducible refine (hI.out _).mono ?_); rintro e w' ⟨rfl, rfl⟩)
      go_ret
      exact ⟨rfl, hb0.out⟩
    · rw [if_neg (by intro q; rcases q with q | q; exact h1 q; exact h2 q)]
      have n2 : (b.v == 0) = false := by rw [beq_eq_false_iff_ne]; exact h2
      obtain ⟨au, av, ac, ag⟩ := a
      obtain ⟨bu, bv, bc, bg⟩ := b
      simp only at h1 h2 hC n1 n2
      simp only
      clear hI h1 h2
      go_enter Tryd.func85, Tryd.ntmps85
      go_wp2_with fail
      (with_reducible refine (hC.out _).mono ?_)
      rintro e w5 ⟨rfl, hb5⟩
      replace hb5 := hidden (hb0.out.trans (hb5.mono hb0.out.size))
      clear hC
      go_wp2
      go_ret
      exact ⟨rfl, hb5.out⟩
theorem lotAt_below {w w' : World} {b o : Nat} {x : Lt} (h : LotAt w b o x) (hb : Below w.heap.size w w') : LotAt w' b o x := by
  have hlt : b < w.heap.size := World.block_lt_of_cell? w _ h.1
  have e : ∀ p : Nat, w'.cell? ⟨b, p, none⟩ = w.cell? ⟨b, p, none⟩ := fun p => World.cell?_of_block (hb.block b hlt)
  obtain ⟨h0, h1, h2, h3⟩ := h
  exact ⟨(e _).trans h0, (e _).trans h1, (e _).trans h2, (e _).trans h3⟩
abbrev LeS (w0 : World) (g : Nat) (v : Value) (b o p : Nat) (x y : Lt) (W : World) : Prop :=
  W.cell? ⟨g, 0, none⟩ = some v ∧ (W.cell? ⟨b, o, none⟩ = some (.int .i64 x.u) ∧ W.cell? ⟨b, o + 1, none⟩ = some (.int .i64 x.v) ∧ W.cell? ⟨b, o + 2, none⟩ = some (.int .i64 x.c) ∧ W.cell? ⟨b, o + 3, none⟩ = some (.int .i64 x.g)) ∧
    (W.cell? ⟨b, p, none⟩ = some (.int .i64 y.u) ∧ W.cell? ⟨b, p + 1, none⟩ = some (.int .i64 y.v) ∧ W.cell? ⟨b, p + 2, none⟩ = some (.int .i64 y.c) ∧ W.cell? ⟨b, p + 3, none⟩ = some (.int .i64 y.g)) ∧ Below w0.heap.size w0 W
theorem leS_drew {w0 W : World} {g : Nat} {v : Value} {b o p : Nat} {x y : Lt} (h : LeS w0 g v b o p x y W) : LeS w0 g v b o p x y W.drew := ⟨h.1, h.2.1, h.2.2.1, h.2.2.2.drew⟩
theorem leS_next {w0 W W' : World} {g : Nat} {v : Value} {b o p : Nat} {x y : Lt} (h : LeS w0 g v b o p x y W) (hb : Below W.heap.size W W') : LeS w0 g v b o p x y W' := by
  refine ⟨?_, lotAt_below h.2.1 hb, lotAt_below h.2.2.1 hb, h.2.2.2.trans (hb.mono h.2.2.2.size)⟩
  rw [World.cell?_of_block (w := W) (hb.block _ (World.block_lt_of_cell? W _ h.1))]; exact h.1
set_option maxRecDepth 100000 in
set_option maxHeartbeats 3200000 in
theorem ahead_any18 (la : Option Addr) (lc g i j : Nat) (L : List Lt) (w : World) (hr : Row ltV 4 w (.slice la L.length lc) L) (hbig : ∀ x ∈ L, ltBig x) (hg : w.cell? ⟨g, 0, none⟩ = some (.slice la L.length lc)) (hi : i < L.length) (hj : j < L.length) :
    Calls Tryd.prog 84 #[.int .i64 (i : Int), .int .i64 (j : Int), .pointer (some ⟨g, 0, none⟩)] w fun e w' => e = .returned (.int .i64 (cmpR (L.getD i ltZ) (L.getD j ltZ))) ∧ Below w.heap.size w w' := by
  obtain ⟨b, o, rfl, q⟩ := rowLt_at hr i hi
  obtain ⟨b', o', e, r⟩ := rowLt_at hr j hj
  simp only [Option.some.injEq, Addr.mk.injEq, and_true] at e
  obtain ⟨rfl, rfl⟩ := e
  have hC := hidden (fun W => rates_any (L.getD i ltZ) (L.getD j ltZ) W (by rw [List.getD_eq_getElem?_getD, List.getElem?_eq_getElem hi]; exact hbig _ (List.getElem_mem hi)) (by rw [List.getD_eq_getElem?_getD, List.getElem?_eq_getElem hj]; exact hbig _ (List.getElem_mem hj)))
  have hiI : (i : Int) < (L.length : Int) := by omega
  have hjI : (j : Int) < (L.length : Int) := by omega
  generalize cmpR (L.getD i ltZ) (L.getD j ltZ) = r0 at *
  generalize L.getD i ltZ = x at *
  generalize L.getD j ltZ = y at *
  have hs0 := hidden (show LeS w g (.slice (some ⟨b, o, none⟩) L.length lc) b (o + i * 4) (o + j * 4) x y w from ⟨hg, q, r, Below.refl _ _⟩)
  obtain ⟨xu, xv, xc, xg⟩ := x
  obtain ⟨yu, yv, yc, yg⟩ := y
  clear q r hg hr hbig
  go_enter Tryd.func84, Tryd.ntmps84
  go_wp2_with fail
  go_region_held3 (fun W => W.cell? ⟨g, 0, none⟩ = some (.slice (some ⟨b, o, none⟩) L.length lc) ∧ (W.cell? ⟨b, o + i * 4, none⟩ = some (.int .i64 xu) ∧ W.cell? ⟨b, o + i * 4 + 1, none⟩ = some (.int .i64 xv) ∧ W.cell? ⟨b, o + i * 4 + 2, none⟩ = some (.int .i64 xc) ∧ W.cell? ⟨b, o + i * 4 + 3, none⟩ = some (.int .i64 xg)) ∧
    (W.cell? ⟨b, o + j * 4, none⟩ = some (.int .i64 yu) ∧ W.cell? ⟨b, o + j * 4 + 1, none⟩ = some (.int .i64 yv) ∧ W.cell? ⟨b, o + j * 4 + 2, none⟩ = some (.int .i64 yc) ∧ W.cell? ⟨b, o + j * 4 + 3, none⟩ = some (.int .i64 yg)) ∧ Below w.heap.size w W)
    ((first | exact leS_drew hs0.out | assumption | exact leS_next (x := ⟨xu, xv, xc, xg⟩) (y := ⟨yu, yv, yc, yg⟩) (by assumption) (by assumption)))
    ((go_at_call 85; (with_reducible refine (hC.out _).mono ?_); rintro r w' ⟨rfl, hb5⟩))
  all_goals
    rename_i hh
    have hend := hidden hh.2.2.2
    clear hh hs0
    go_wp2
    go_ret
    exact ⟨rfl, hend.out⟩
end Go.Proofs.YtaojahjgfgmpfaaDoor
