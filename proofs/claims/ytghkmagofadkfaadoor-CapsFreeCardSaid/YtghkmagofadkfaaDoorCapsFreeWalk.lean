import Derived.Test.YtghkmagofadkfaaDoorCapsLaw
import Derived.Test.YtghkmagofadkfaaDoorLaidOn
namespace Go.Proofs.YtghkmagofadkfaaDoor
open Go.RowKit
set_option linter.unusedVariables false

abbrev frA (u : Int) : Ln := ⟨2, 2, 3, u⟩
abbrev frB (u : Int) : Ln := ⟨2, 2, 0, u⟩
theorem frA_ok {u : Int} (h0 : 0 ≤ u) (h1 : u ≤ 999999) : (∀ x ∈ [frA u], lnOk x) ∧ totL [frA u] ≤ 1000000000000000 := by
  refine ⟨fun x hx => ?_, by simp only [totL]; omega⟩
  obtain rfl : x = frA u := by simpa using hx
  unfold lnOk frA; simp only; omega
theorem frB_ok {u : Int} (h0 : 0 ≤ u) (h1 : u ≤ 999999) : (∀ x ∈ [frB u], lnOk x) ∧ totL [frB u] ≤ 1000000000000000 := by
  refine ⟨fun x hx => ?_, by simp only [totL]; omega⟩
  obtain rfl : x = frB u := by simpa using hx
  unfold lnOk frB; simp only; omega
theorem free_get (x : Int) (s : LimT) : getC (setCT noC (3, 3) x) s = if monOk x ∧ s = (3, 3) then x else 0 := by
  rw [getC_set, getC_no]
  by_cases h : monOk x ∧ s = (3, 3)
  · rw [if_pos h, if_pos ⟨by decide, h.1, h.2⟩]
  · rw [if_neg h, if_neg (fun q => h q.2)]
theorem free_ca (x : Int) : CaT (setCT noC (3, 3) x) := noC_ca.set _ _
theorem free_b (x : Int) {u : Int} (h0 : 0 ≤ u) (h1 : u ≤ 999999) : s4 (setCT noC (3, 3) x) [frB u] = u := by
  rw [s4_one (free_ca x) ((frB_ok h0 h1).1 _ (by simp))]
  simp [free_get, capN_free]
theorem free_a (x : Int) {u : Int} (h0 : 0 ≤ u) (h1 : u ≤ 999999) : s4 (setCT noC (3, 3) x) [frA u] = capN u (if monOk x then x else 0) := by
  rw [s4_one (free_ca x) ((frA_ok h0 h1).1 _ (by simp))]
  simp [free_get, capN_free]
theorem free_gone (x : Int) (s : LimT) : getC (setCT (setCT noC (3, 3) x) (3, 3) 0) s = 0 := by
  rw [getC_set, free_get]
  by_cases h : s = (3, 3)
  · rw [if_pos ⟨by decide, by decide, h⟩]
  · rw [if_neg (fun q => h q.2.2), if_neg (fun q => h q.2)]
theorem free_c (x : Int) {u : Int} (h0 : 0 ≤ u) (h1 : u ≤ 999999) : s4 (setCT (setCT noC (3, 3) x) (3, 3) 0) [frA u] = u := by
  rw [s4_one ((free_ca x).set _ _) ((frA_ok h0 h1).1 _ (by simp))]
  simp [free_gone, capN_free]
theorem free_ways (x u : Int) : (setCC (3, 3) x = 0 ∧ decide (0 < x) = true ∧ u ≤ x ∧ capN u (if monOk x then x else 0) = u) ∨ (setCC (3, 3) x = 0 ∧ decide (0 < x) = true ∧ x < u ∧ capN u (if monOk x then x else 0) = x) ∨
    (setCC (3, 3) x = 0 ∧ decide (0 < x) = false ∧ capN u (if monOk x then x else 0) = u) ∨ (setCC (3, 3) x = 103 ∧ capN u (if monOk x then x else 0) = u) := by
  by_cases hx : monOk x
  · have e : setCC (3, 3) x = 0 := by unfold setCC; rw [if_pos ⟨by decide, hx⟩]
    rw [if_pos hx]
    unfold capN
    by_cases h0 : 0 < x
    · by_cases h1 : u ≤ x
      · exact .inl ⟨e, decide_eq_true h0, h1, if_neg (by omega)⟩
      · exact .inr (.inl ⟨e, decide_eq_true h0, by omega, if_pos (by omega)⟩)
    · exact .inr (.inr (.inl ⟨e, decide_eq_false h0, if_neg (by omega)⟩))
  · have e : setCC (3, 3) x = 103 := by unfold setCC; rw [if_neg (fun q => hx q.2)]
    rw [if_neg hx, capN_free]
    exact .inr (.inr (.inr ⟨e, rfl⟩))
theorem rem_neg {v : Int} (h : v < 0) (h1 : -9223372036854775808 ≤ v) : 0 ≤ -(v + 1).tmod 1000000 ∧ -(v + 1).tmod 1000000 ≤ 999999 := by
  rw [← Int.neg_tmod, Int.tmod_eq_emod_of_nonneg (by omega)]
  omega
set_option maxRecDepth 100000 in
set_option maxHeartbeats 6400000 in
theorem walk_capsFree (v x : Int) (A : Nat → Addr) (w : World) (v0 : -9223372036854775808 ≤ v) (v1 : v ≤ 9223372036854775807) (x0 : -9223372036854775808 ≤ x) (x1 : x ≤ 9223372036854775807) (hS : SentsOn [2, 3] w A) :
    Calls Tryd.prog 8 #[.int .i64 v, .int .i64 x] w fun r w' => r = .returned (.bool true) ∧ Below w.heap.size w w' := by
  have hF := hidden (law16_first A w hS.on)
  have hn := hidden (fun W (h : Below w.heap.size w W) => lnew16 h)
  have hE := hidden hS.on
  have hr1 := fun h => rem_neg (v := v) h v0
  have hr2 : 0 ≤ v % 1000000 ∧ v % 1000000 ≤ 999999 := by omega
  have hxx := hidden (And.intro x0 x1)
  clear hS x0 x1
  by_cases h0 : v < 0
  all_goals
    go_enter Tryd.func8, Tryd.ntmps8
    go_wp2_with fail
    refine hF.out.mono ?_
    rintro r w1 ⟨rfl, hb⟩
    obtain ⟨hL1, hb1⟩ := hn.out _ hb
    replace hL1 := hidden hL1
    replace hb1 := hidden hb1
    clear hb hF hn
    go_wp2_with fail
    obtain ⟨u, hu0, hu1, hu2⟩ : ∃ u : Int, 0 ≤ u ∧ u ≤ 999999 ∧ ((v < 0 ∧ u = -(v + 1).tmod 1000000) ∨ (¬ v < 0 ∧ u = v % 1000000)) := by
      first
        | exact ⟨_, (hr1 h0).1, (hr1 h0).2, .inl ⟨h0, rfl⟩⟩
        | exact ⟨_, hr2.1, hr2.2, .inr ⟨by omega, rfl⟩⟩
    have hu3 : (-(v + 1).tmod 1000000 = u ∧ v < 0) ∨ (v % 1000000 = u ∧ ¬ v < 0) := by
      rcases hu2 with ⟨q1, q2⟩ | ⟨q1, q2⟩
      · exact .inl ⟨q2.symm, q1⟩
      · exact .inr ⟨q2.symm, q1⟩
    first
      | (rw [show -(v + 1).tmod 1000000 = u from by rcases hu3 with ⟨q, _⟩ | ⟨_, q⟩ <;> first | exact q | omega])
      | (rw [show v % 1000000 = u from by rcases hu3 with ⟨_, q⟩ | ⟨q, _⟩ <;> first | exact q | omega])
    clear hr1 hr2 hu2 hu3
    have hT := hidden (show setCT (setCT noC (3, 3) x) (3, 0) x = setCT noC (3, 3) x from if_neg (fun q => absurd q.1 (by decide)))
    have hC := hidden (show setCC (3, 0) x = 103 from if_neg (fun q => absurd q.1 (by decide)))
    have hw := free_ways x u
    have hA := hidden (free_a x hu0 hu1)
    have hB := hidden (free_b x hu0 hu1)
    have hD := hidden (free_c x hu0 hu1)
    have hokA := hidden (frA_ok hu0 hu1)
    have hokB := hidden (frB_ok hu0 hu1)
    (with_reducible refine (lset16 hb1.out hL1.out (by decide) hE.out (3, 3) x).mono ?_)
    rintro r w2 ⟨rfl, hL2, hb2, _⟩
    replace hL2 := hidden hL2
    replace hb2 := hidden hb2
    clear hL1 hb1
    generalize capN u (if monOk x then x else 0) = X at *
    generalize setCC (3, 3) x = cc at *
    go_wp2_with fail
    (with_reducible refine (lset16 hb2.out hL2.out (by decide) hE.out (3, 0) x).mono ?_)
    rintro r w3 ⟨rfl, hL3, hb3, _⟩
    rw [hT.out] at hL3
    rw [hC.out]
    have hW : Below w3.heap.size w3 ((w3.alloc (lnO 58 (frA u))).alloc (lnO 58 (frB u))) := ((Below.refl _ w3).alloc (Nat.le_refl _) _).alloc (by simp) _
    have hbW := hb3.trans (hW.mono hb3.size)
    have hS1 := lsumN16 hbW (hL3.below hW (Nat.le_refl _)) hE.out #[.int .i64 2, .int .i64 2, .int .i64 3, .int .i64 u] [frA u] 1 rfl rfl (by decide) hokA.out.1 hokA.out.2
    rw [hA.out] at hS1
    have qa := hidden (show ((w3.alloc (lnO 58 (frA u))).alloc (lnO 58 (frB u))).heap[w3.heap.size]? = some (lnO 58 (frA u)) from (heap_alloc_old _ _ (by simp)).trans (heap_alloc_new w3 _))
    have qb0 := heap_alloc_new (w3.alloc (lnO 58 (frA u))) (lnO 58 (frB u))
    have hsz : ((w3.alloc (lnO 58 (frA u))).alloc (lnO 58 (frB u))).heap.size = w3.heap.size + 1 + 1 := by simp
    rw [show (w3.alloc (lnO 58 (frA u))).heap.size = w3.heap.size + 1 by simp] at qb0
    have qb := hidden qb0
    have hgW := hidden (show w1.heap.size < w3.heap.size from hL3.lt)
    rw [hsz] at hS1
    replace hS1 := hidden hS1
    replace hsz := hidden hsz
    clear hL2 hb2 hL3 hb3 hW hbW qb0
    go_wp2_with fail
    (with_reducible refine hS1.out.mono ?_)
    rintro r w5 ⟨rfl, hL5, hb5, hb5'⟩
    have qa5 := hidden ((hb5'.block _ (by first | omega | (rw [hsz.out]; omega))).trans qa.out)
    obtain ⟨k0, k1, k2, k3⟩ := ln_cells ((hb5'.block _ (by first | omega | (rw [hsz.out]; omega))).trans qb.out)
    have hS2 := lsumN16 hb5 hL5 hE.out #[.int .i64 2, .int .i64 2, .int .i64 0, .int .i64 u] [frB u] 1 rfl rfl (by decide) hokB.out.1 hokB.out.2
    rw [hB.out] at hS2
    replace hS2 := hidden hS2
    have hl5 := hidden (Nat.lt_of_lt_of_le (show w3.heap.size < _ by first | omega | (rw [hsz.out]; omega)) hb5'.size)
    clear hS1 hL5 hb5 hb5' qa qb hsz
    go_wp2_with fail
    (with_reducible refine hS2.out.mono ?_)
    rintro r w6 ⟨rfl, hL6, hb6, hb6'⟩
    have qa6 := hidden ((hb6'.block _ hl5.out).trans qa5.out)
    replace hL6 := hidden hL6
    replace hb6 := hidden hb6
    clear hS2 hb6' qa5 k0 k1 k2 k3
    go_wp2_with fail
    (with_reducible refine (lset16 hb6.out hL6.out (by decide) hE.out (3, 3) 0).mono ?_)
    rintro r w7 ⟨rfl, hL7, hb7, hk7⟩
    obtain ⟨k0, k1, k2, k3⟩ := ln_cells (hk7 _ _ _ _ (by have := hgW.out; omega) qa6.out)
    have hS3 := lsumN16 hb7 hL7 hE.out #[.int .i64 2, .int .i64 2, .int .i64 3, .int .i64 u] [frA u] 1 rfl rfl (by decide) hokA.out.1 hokA.out.2
    rw [hD.out] at hS3
    replace hS3 := hidden hS3
    clear hL6 hb6 hL7 hb7 hk7 qa6
    go_wp2_with fail
    (with_reducible refine hS3.out.mono ?_)
    rintro r w8 ⟨rfl, hL8, hb8, _⟩
    have hAll := lall16 hb8 hL8
    have hAl := llen16 hb8 hL8
    rw [allC_none (free_gone x)] at hAl
    replace hAl := hidden hAl
    clear hS3 hL8 hb8 hAll k0 k1 k2 k3
    rcases hw with ⟨rfl, z1, z2, rfl⟩ | ⟨rfl, z1, z2, rfl⟩ | ⟨rfl, z1, rfl⟩ | ⟨rfl, rfl⟩
    all_goals
      have z3 : errOf A 0 = .nilIface := rfl
      have z4 : errOf A 103 = errAt (A 2) := rfl
      go_wp2_with fail
      (with_reducible refine hAl.out.mono ?_)
      rintro r w9 ⟨⟨a9, c9, rfl⟩, _, hb9, _⟩
      replace hb9 := hidden hb9
      clear hAl
      go_wp2
      go_ret
      exact ⟨rfl, hb9.out⟩
end Go.Proofs.YtghkmagofadkfaaDoor
