import Derived.Test.YtefjemkpbkikbaaDoorNeed1
import Derived.Test.YtefjemkpbkikbaaDoorLaidOn
namespace Go.Proofs.YtefjemkpbkikbaaDoor
open Go.RowKit
set_option linter.unusedVariables false

set_option maxRecDepth 100000 in
set_option maxHeartbeats 6400000 in
theorem walk_needEvens (n h : Int) (A : Nat → Addr) (w : World) (n0 : -9223372036854775808 ≤ n) (n1 : n ≤ 9223372036854775807) (h0 : -9223372036854775808 ≤ h) (h1 : h ≤ 9223372036854775807) (hS : SentsOn [2] w A) :
    Calls Tryd.prog 4 #[.agg #[.int .i64 n, .int .i64 h]] w fun r w' => r = .returned (.bool true) ∧ Below w.heap.size w w' := by
  have hb0 := hidden (below_nd w ⟨n, h⟩)
  have hcell := hidden (heap_alloc_new w (ndO ⟨n, h⟩))
  have hE := hidden (fun W (h2 : Below w.heap.size w W) => hS.on.below h2 (Nat.le_refl _))
  have hF := hidden (law17_first A _ (hE.out _ hb0.out))
  have hSz : w.heap.size < (w.alloc (ndO ⟨n, h⟩)).heap.size := by simp
  have hC := hidden (fun W (hb : Below (w.alloc (ndO ⟨n, h⟩)).heap.size (w.alloc (ndO ⟨n, h⟩)) W) => show NdC w n h W from by
    have hrow := (hb.block w.heap.size hSz).trans hcell.out
    exact ⟨by rw [cell_of_row _ _ _ _ _ _ hrow]; rfl, by rw [cell_of_row _ _ _ _ _ _ hrow]; rfl⟩)
  clear hS hcell
  go_enter Tryd.func4, Tryd.ntmps4
  go_wp2_with fail
  (with_reducible refine hF.out.mono ?_)
  rintro r w1 ⟨rfl, hb1⟩
  obtain ⟨c0, c1⟩ := hC.out _ hb1
  have hV := hidden (lawValid_any ⟨n, h⟩ w1)
  replace hb1 := hidden hb1
  clear hF
  by_cases hok : ndOk ⟨n, h⟩
  · rw [decide_eq_true hok] at hV
    go_wp2_with fail
    (with_reducible refine hV.out.mono ?_)
    rintro r w2 ⟨rfl, hb2⟩
    replace hb2 := hidden (hb1.out.trans (hb2.mono hb1.out.size))
    obtain ⟨c0, c1⟩ := hC.out _ hb2.out
    have hs := hidden (short_any A ⟨n, h⟩ w2 (hE.out _ (hb0.out.trans (hb2.out.mono hb0.out.size))))
    rw [shV_ok hok] at hs
    clear hV hb1
    go_wp2_with fail
    (with_reducible refine hs.out.mono ?_)
    rintro r w3 ⟨rfl, hb3⟩
    replace hb3 := hidden (hb2.out.trans (hb3.mono hb2.out.size))
    obtain ⟨c0, c1⟩ := hC.out _ hb3.out
    have hs := hidden (spare_any A ⟨n, h⟩ w3 (hE.out _ (hb0.out.trans (hb3.out.mono hb0.out.size))))
    rw [spV_ok hok] at hs
    clear hb2
    go_wp2_with fail
    (with_reducible refine hs.out.mono ?_)
    rintro r w4 ⟨rfl, hb4⟩
    replace hb4 := hidden (hb3.out.trans (hb4.mono hb3.out.size))
    obtain ⟨c0, c1⟩ := hC.out _ hb4.out
    clear hb3 hs
    simp only
    have hx : h + max (n - h) 0 = n + max (h - n) 0 ∧ (max (n - h) 0 = 0 ∨ max (h - n) 0 = 0) ∧ 0 ≤ max (n - h) 0 ∧ 0 ≤ max (h - n) 0 ∧ 0 ≤ h ∧ h ≤ 1000000000000000 ∧ 0 ≤ n ∧ n ≤ 1000000000000000 ∧ max (n - h) 0 ≤ 1000000000000000 ∧ max (h - n) 0 ≤ 1000000000000000 := by unfold ndOk at hok; simp only at hok; omega
    have hok2 : ndOk ⟨n, h + max (n - h) 0⟩ ∧ max (n - (h + max (n - h) 0)) 0 = 0 := by unfold ndOk at hok ⊢; simp only at hok ⊢; omega
    generalize max (n - h) 0 = a at *
    generalize max (h - n) 0 = b at *
    obtain ⟨x1, x2, x3, x4, x5, x6, x7, x8, x9, x10⟩ := hx
    obtain ⟨u, hu⟩ : ∃ u, u = h + a := ⟨_, rfl⟩
    have hwa : IntKind.i64.wrap (h + a) = u := by rw [IntKind.wrap_i64]; omega
    have hwb : IntKind.i64.wrap (n + b) = u := by rw [IntKind.wrap_i64]; omega
    rw [← hu] at hok2
    have hw2 : ((a == 0) = true) ∨ ((a == 0) = false ∧ (b == 0) = true) := by
      simp only [beq_iff_eq, beq_eq_false_iff_ne]
      omega
    have e01 := fun o => hC.out _ (hb4.out.alloc hb4.out.size o)
    have hbt := below_nd w4 ⟨n, u⟩
    have hb5 := hb0.out.trans (hb4.out.mono hb0.out.size)
    have hb6 := hb5.trans (hbt.mono hb5.size)
    have hva := ndValid_any A ⟨n, u⟩ _ (hE.out _ hb6)
    rw [show ndC ⟨n, u⟩ = 0 from if_pos hok2.1, errOf_fine] at hva
    have hrow := heap_alloc_new w4 (ndO ⟨n, u⟩)
    have hbo := hidden (fun W (h2 : Below w.heap.size w W) => bound_any A ⟨n, u⟩ W (hE.out _ h2))
    have hsh := hidden (fun W (h2 : Below w.heap.size w W) => short_any A ⟨n, u⟩ W (hE.out _ h2))
    rw [shV_ok hok2.1, show (max ((⟨n, u⟩ : Nd).n - (⟨n, u⟩ : Nd).h) 0) = 0 from hok2.2] at hbo hsh
    clear hok hok2 hC hE
    have e0 := fun o => (e01 o).1
    have e1 := fun o => (e01 o).2
    clear e01 x1 x2 hu
    replace hrow := hidden hrow
    replace hva := hidden hva
    replace hb6 := hidden hb6
    replace hb5 := hidden hb5
    replace hbt := hidden hbt
    rcases hw2 with y1 | ⟨y1, y2⟩
    all_goals
      go_wp2_with fail
      (with_reducible refine hva.out.mono ?_)
      rintro r w5 ⟨rfl, hb7⟩
      have hrow5 := (hb7.block w4.heap.size (by simp)).trans hrow.out
      have d0 : w5.cell? ⟨w4.heap.size, 0, none⟩ = some (.int .i64 n) := by rw [cell_of_row _ _ _ _ _ _ hrow5]; rfl
      have d1 := cell_of_row _ _ 1 _ _ _ hrow5
      simp only [List.getElem?_toArray, List.getElem?_cons_succ, List.getElem?_cons_zero] at d1
      have hb8 := hidden (hb6.out.trans (hb7.mono hb6.out.size))
      have hbo5 := hidden (hbo.out _ hb8.out)
      have hk5 := hidden hrow5
      clear hb7 hva hrow hrow5 hbo
      go_wp2_with fail
      (with_reducible refine hbo5.out.mono ?_)
      rintro r w6 ⟨rfl, hb7⟩
      have hrow6 := (hb7.block w4.heap.size (by have := (Array.getElem?_eq_some_iff.1 hk5.out).1; exact this)).trans hk5.out
      have d0 : w6.cell? ⟨w4.heap.size, 0, none⟩ = some (.int .i64 n) := by rw [cell_of_row _ _ _ _ _ _ hrow6]; rfl
      have d1 := cell_of_row _ _ 1 _ _ _ hrow6
      simp only [List.getElem?_toArray, List.getElem?_cons_succ, List.getElem?_cons_zero] at d1
      have hb9 := hidden (hb8.out.trans (hb7.mono hb8.out.size))
      have hsh6 := hidden (hsh.out _ hb9.out)
      clear hb7 hrow6 hk5 hbo5 hsh hb8
      go_wp2_with fail
      (with_reducible refine hsh6.out.mono ?_)
      rintro r w7 ⟨rfl, hb7⟩
      have hb10 := hidden (hb9.out.trans (hb7.mono hb9.out.size))
      clear hb7 hsh6
      go_wp2
      go_ret
      exact ⟨rfl, hb10.out⟩
  · rw [decide_eq_false hok] at hV
    go_wp2_with fail
    (with_reducible refine hV.out.mono ?_)
    rintro r w2 ⟨rfl, hb2⟩
    replace hb2 := hidden (hb1.out.trans (hb2.mono hb1.out.size))
    clear hV hC hb1 hE
    go_wp2
    go_ret
    exact ⟨rfl, hb0.out.trans (hb2.out.mono hb0.out.size)⟩
end Go.Proofs.YtefjemkpbkikbaaDoor
