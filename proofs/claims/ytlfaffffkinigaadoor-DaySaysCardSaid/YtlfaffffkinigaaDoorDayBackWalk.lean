import Derived.Test.YtlfaffffkinigaaDoorDayLaw
import Derived.Test.YtlfaffffkinigaaDoorLaidOn
namespace Go.Proofs.YtlfaffffkinigaaDoor
open Go.RowKit
set_option linter.unusedVariables false

theorem dat_in {n y m d c : Int} (h0 : 0 ≤ n) (h1 : n ≤ 40000) (h : DatD n y m d c) : c = 0 ∧ 2000 ≤ y ∧ vldB y m d = true ∧ numD y m d = n := by
  rcases h with ⟨_, _, a, b, c, d⟩ | ⟨h, _⟩
  · exact ⟨a, b, c, d⟩
  · omega
theorem year_late {n y m d : Int} (h1 : n ≤ 40000) (hv : vldB y m d = true) (hn : numD y m d = n) : y ≤ 2109 := by
  by_cases h : 2109 < y
  · have e := (num_in_year hv).1
    have e2 := yC_le 2110 y (by omega)
    rw [show yC 2110 = 40177 by decide] at e2
    omega
  · omega
theorem of_dat {n y m d : Int} (h1 : n ≤ 40000) (hy : 2000 ≤ y) (hv : vldB y m d = true) (hn : numD y m d = n) : ofV y m d = n ∧ ofC y m d = 0 := by
  obtain ⟨e1, e2⟩ := of_yes (okD_mk hy hv (by omega : numD y m d ≤ 40000))
  exact ⟨by omega, e2⟩
theorem wk_next (n : Int) : wkD (n + 1) = (wkD n + 1) % 7 := by unfold wkD; omega
theorem wk_bd (n : Int) : 0 ≤ wkD n ∧ wkD n ≤ 6 := by unfold wkD; omega
/-- cells of an older block, in a world behind. -/
theorem cells3_then {w w1 : World} {g : Nat} {B : Nat} {u0 u1 u2 : Value} (hg : g < B) (hb : Below B w w1) (c0 : w.cell? ⟨g, 0, none⟩ = some u0) (c1 : w.cell? ⟨g, 1, none⟩ = some u1) (c2 : w.cell? ⟨g, 2, none⟩ = some u2) :
    w1.cell? ⟨g, 0, none⟩ = some u0 ∧ w1.cell? ⟨g, 1, none⟩ = some u1 ∧ w1.cell? ⟨g, 2, none⟩ = some u2 := by
  refine ⟨?_, ?_, ?_⟩ <;> rw [World.cell?_of_block (w := w) (hb.block g hg)] <;> assumption

set_option maxRecDepth 100000 in
set_option maxHeartbeats 4000000 in
theorem walk_dayBack (a : Int) (A : Nat → Addr) (w : World) (ha : -9223372036854775808 ≤ a) (ha2 : a ≤ 9223372036854775807) (hS : SentsOn [2] w A) :
    Calls Tryd.prog 4 #[.int .i64 a] w fun e w' => e = .returned (.bool true) ∧ Below w.heap.size w w' := by
  have hF := hidden (law4_first A w hS.on)
  have hE := hidden (fun w' (h : Below w.heap.size w w') => hS.on.below h (Nat.le_refl _))
  clear hS
  have hx := hidden (fun w => number_any a 40000 w ha ha2 (by decide) (by decide))
  have x0 : 0 ≤ a % 40000 := by omega
  have x1 : a % 40000 ≤ 39999 := by omega
  clear ha ha2
  generalize a % 40000 = n at *
  go_enter Tryd.func4, Tryd.ntmps4
  go_wp2_with fail
  refine hF.out.mono ?_
  rintro e w1 ⟨rfl, hw⟩
  replace hw := hidden hw
  go_wp2_with (go_at_call 23; with_reducible refine (hx.out _).mono ?_; rintro e w' ⟨rfl, rfl⟩)
  refine (dayAt_any A n _ (hE.out _ hw.out) (by omega) (by omega)).mono ?_
  rintro e w2 ⟨y, m, d, c, hd, rfl, hb⟩
  obtain ⟨rfl, hy, hv, hn⟩ := dat_in x0 (by omega) hd
  rw [errOf_fine]
  replace hw := hidden (hw.out.trans (hb.mono hw.out.size))
  replace hv := hidden hv
  replace hn := hidden hn
  clear hd hb
  go_wp2_with fail
  have hw2 := hidden (hw.out.trans ((below_date w2 y m d).mono hw.out.size))
  refine (dayAt_any A (n + 1) _ (hE.out _ hw2.out) (by omega) (by omega)).mono ?_
  rintro e w3 ⟨y', m', d', c', hd, rfl, hb⟩
  obtain ⟨rfl, hy', hv', hn'⟩ := dat_in (by omega) (by omega) hd
  rw [errOf_fine]
  replace hv' := hidden hv'
  replace hn' := hidden hn'
  clear hd
  obtain ⟨c0, c1, c2, hb3⟩ := date_cells hb
  have hz : w2.heap.size < w3.heap.size := by have := hb.size; simp at this; omega
  clear hb hw2
  replace hw := hidden (hw.out.trans (hb3.mono hw.out.size))
  clear hb3
  generalize w2.heap.size = B at c0 c1 c2 hz ⊢
  go_wp2_with fail
  have hw3 := hidden (hw.out.trans ((below_date w3 y' m' d').mono hw.out.size))
  have hyl := year_late (by omega) hv.out hn.out
  have ho := hidden (of_dat (by omega) hy hv.out hn.out)
  refine (dayOf_any A y m d _ (hE.out _ hw3.out) (by omega) (by omega)).mono ?_
  rw [ho.out.1, ho.out.2, errOf_fine]
  rintro e w4 ⟨rfl, hb⟩
  obtain ⟨k0, k1, k2, hb4⟩ := date_cells hb
  obtain ⟨c0, c1, c2⟩ := cells3_then hz hb4 c0 c1 c2
  replace hw := hidden (hw.out.trans (hb4.mono hw.out.size))
  clear hb hb4 hw3
  generalize w3.heap.size = B' at k0 k1 k2 hz
  have hnx := num_next hv.out hv'.out hn.out hn'.out
  have d1 := (vld_yes hv.out).2.2.1
  obtain ⟨g0, g1⟩ := wk_bd n
  have hk := wk_next n
  have hdm := dmo_bd y m
  have dh := (vld_yes hv.out).2.2.2
  have d31 : d ≤ 31 := by omega
  clear hx hF hE ho dh hdm
  rcases hnx with ⟨rfl, rfl, rfl⟩ | ⟨rfl, e1, e2 | ⟨rfl, e2⟩⟩
  · have r1 : (d + 1 == 1) = false := beq_eq_false_iff_ne.2 (by omega)
    go_wp2_with (go_at_call 19; refine (week_any _ _ (by omega) (by omega)).mono ?_; rintro e w' ⟨rfl, rfl⟩)
    go_ret
    exact ⟨rfl, hw.out⟩
  · go_wp2_with (go_at_call 19; refine (week_any _ _ (by omega) (by omega)).mono ?_; rintro e w' ⟨rfl, rfl⟩)
    go_ret
    exact ⟨rfl, hw.out⟩
  · go_wp2_with (go_at_call 19; refine (week_any _ _ (by omega) (by omega)).mono ?_; rintro e w' ⟨rfl, rfl⟩)
    go_ret
    exact ⟨rfl, hw.out⟩
end Go.Proofs.YtlfaffffkinigaaDoor
