import Derived.Test.YtaojahjgfgmpfaaDoorAllocC
import Derived.Test.YtaojahjgfgmpfaaDoorNumber
import Derived.Test.YtaojahjgfgmpfaaDoorLaidOn
namespace Go.Proofs.YtaojahjgfgmpfaaDoor
open Go Go.RowKit
set_option linter.unusedVariables false

theorem uno_ok {u v c n : Int} (hu : 0 ≤ u ∧ u < 60) (hv : 0 ≤ v ∧ v < 100) (hc : 0 ≤ c ∧ c < 100) (hn : 0 ≤ n ∧ n < 5000) : OkP [⟨u, v, c, 0⟩] [0] n := by
  refine ⟨⟨by simp, by simp⟩, ?_, ?_, ?_⟩
  · intro x hx
    simp only [List.mem_cons, List.not_mem_nil, or_false] at hx
    subst hx
    unfold ltOk
    simp
    omega
  · intro x hx
    simp only [List.mem_cons, List.not_mem_nil, or_false] at hx
    subst hx
    decide
  · unfold capOk; omega
theorem uno_wo (u v c k : Int) : wo [⟨u, v, c, 0⟩] [0] [k] = k * v := by simp [wo, sumF, woF, gs, gsF, capd]
theorem uno_co (u v c k : Int) : co [⟨u, v, c, 0⟩] [k] = k * c := by simp [co, sumF, coF]
theorem uno_beC {u v c n : Int} (hu : 0 ≤ u ∧ u < 60) (hv : 0 ≤ v ∧ v < 100) (hc : 0 ≤ c ∧ c < 100) (hn : 0 ≤ n ∧ n < 5000) : beC [⟨u, v, c, 0⟩] [0] n 100000 = if u * v < n then 121 else 0 := by
  unfold beC
  rw [if_pos (uno_ok hu hv hc hn), if_neg (by omega)]
  show (if wo [⟨u, v, c, 0⟩] [0] [u] < n then (121 : Int) else 0) = _
  rw [uno_wo]
theorem uno_facts {u v c n k : Int} (hu : 0 ≤ u ∧ u < 60) (hv : 0 ≤ v ∧ v < 100) (hc : 0 ≤ c ∧ c < 100) (hn : 0 ≤ n ∧ n < 5000) (hf : ¬ u * v < n) (hk0 : 0 ≤ k) (hk : n ≤ k * v) (hk2 : ∀ t : Int, 0 ≤ t → n ≤ t * v → k ≤ t) :
    ∃ t : Int, (beR [⟨u, v, c, 0⟩] [0] n 100000).1.best = [t] ∧ (beR [⟨u, v, c, 0⟩] [0] n 100000).2 = true ∧ (beR [⟨u, v, c, 0⟩] [0] n 100000).1.cost = k * c ∧ (c = 0 ∨ t = k) ∧ n ≤ beW [⟨u, v, c, 0⟩] [0] n 100000 := by
  have h0 : beC [⟨u, v, c, 0⟩] [0] n 100000 = 0 := by rw [uno_beC hu hv hc hn, if_neg hf]
  obtain ⟨hF, hW⟩ := be_found h0
  have hl : (beR [⟨u, v, c, 0⟩] [0] n 100000).1.best.length = 1 := hF.tk.1
  have hs : (beR [⟨u, v, c, 0⟩] [0] n 100000).2 = true := by
    cases hb : (beR [⟨u, v, c, 0⟩] [0] n 100000).2
    · have := hF.many hb
      simp only [pdL] at this
      omega
    · rfl
  obtain ⟨t, ht⟩ := List.length_eq_one_iff.1 hl
  have ht0 := hF.tk.2 0 (by simp)
  have hft := hF.fits
  have hco := hF.cost
  rw [ht] at ht0 hft hco
  rw [uno_wo] at hft
  rw [uno_co] at hco
  simp only [List.getD_cons_zero] at ht0
  have hkt := hk2 t ht0.1 hft
  have hmin := hF.sure hs [k] ⟨rfl, fun i hi => by
    match i, hi with
    | 0, _ => show 0 ≤ k ∧ k ≤ u; omega⟩ (by rw [uno_wo]; exact hk)
  rw [uno_co, hco] at hmin
  have hge : k * c ≤ t * c := Int.mul_le_mul_of_nonneg_right hkt hc.1
  refine ⟨t, ht, hs, by omega, ?_, by rw [hW, ht, uno_wo]; exact hft⟩
  by_cases h : c = 0
  · exact .inl h
  · refine .inr (Int.le_antisymm ?_ hkt)
    exact Int.le_of_mul_le_mul_right hmin (by omega)
theorem up_is {n v : Int} (hn : 0 < n) (hv : 0 < v) : 0 ≤ (n + v - 1).tdiv v ∧ n ≤ (n + v - 1).tdiv v * v ∧ (∀ t : Int, 0 ≤ t → n ≤ t * v → (n + v - 1).tdiv v ≤ t) ∧ (n + v - 1).tdiv v ≤ n := by
  rw [Int.tdiv_eq_ediv_of_nonneg (by omega)]
  have h1 := Int.mul_ediv_add_emod (n + v - 1) v
  have h2 := Int.emod_lt_of_pos (n + v - 1) hv
  have h3 := Int.emod_nonneg (n + v - 1) (show v ≠ 0 by omega)
  have h4 : v * ((n + v - 1) / v) = (n + v - 1) / v * v := Int.mul_comm _ _
  have h5 : 0 ≤ (n + v - 1) / v := Int.ediv_nonneg (by omega) (by omega)
  have hmin : ∀ t : Int, 0 ≤ t → n ≤ t * v → (n + v - 1) / v ≤ t := fun t ht0 ht => by
    apply Int.le_of_lt_add_one
    apply Int.lt_of_mul_lt_mul_right (a := v) ?_ (by omega)
    rw [Int.add_mul, Int.one_mul]
    omega
  refine ⟨h5, by omega, hmin, hmin n (by omega) ?_⟩
  have := Int.mul_le_mul_of_nonneg_left (show 1 ≤ v by omega) (show 0 ≤ n by omega)
  omega
set_option maxRecDepth 100000 in
set_option maxHeartbeats 12800000 in
theorem walk_allocOne (a b c d : Int) (A : Nat → Addr) (w : World) (a0 : -9223372036854775808 ≤ a) (a1 : a ≤ 9223372036854775807) (b0 : -9223372036854775808 ≤ b) (b1 : b ≤ 9223372036854775807) (c0 : -9223372036854775808 ≤ c) (c1 : c ≤ 9223372036854775807) (d0 : -9223372036854775808 ≤ d) (d1 : d ≤ 9223372036854775807) (hS : SentsOn [2, 4, 20] w A) :
    Calls Tryd.prog 6 #[.int .i64 a, .int .i64 b, .int .i64 c, .int .i64 d] w fun r w' => r = .returned (.bool true) ∧ Below w.heap.size w w' := by
  have hF := hidden (law20_first A w hS.on)
  have hE := hidden (fun W (h2 : Below w.heap.size w W) => hS.on.below h2 (Nat.le_refl _))
  have nA := hidden (fun W => number_any a 60 W a0 a1 (by decide) (by decide))
  have nB := hidden (fun W => number_any b 100 W b0 b1 (by decide) (by decide))
  have nC := hidden (fun W => number_any c 100 W c0 c1 (by decide) (by decide))
  have nD := hidden (fun W => number_any d 5000 W d0 d1 (by decide) (by decide))
  have hx : 0 ≤ a % 60 ∧ a % 60 < 60 := by omega
  have hy : 0 ≤ b % 100 ∧ b % 100 < 100 := by omega
  have hz : 0 ≤ c % 100 ∧ c % 100 < 100 := by omega
  have hk : 0 ≤ d % 5000 ∧ d % 5000 < 5000 := by omega
  clear a0 a1 b0 b1 c0 c1 d0 d1 hS
  generalize a % 60 = u at *
  generalize b % 100 = v at *
  generalize c % 100 = c at *
  generalize d % 5000 = n at *
  have hbigs : ∀ x ∈ [(⟨u, v, c, 0⟩ : Lt)], ltBig x := fun x hq => by
    simp only [List.mem_cons, List.not_mem_nil, or_false] at hq
    subst hq
    unfold ltBig In64
    simp
    omega
  have hbigc : ∀ x ∈ ([0] : List Int), In64 x := by decide
  have hbc := uno_beC hx hy hz hk
  have huv : 0 ≤ u * v ∧ u * v ≤ 6000 := by
    have h1 := Int.mul_nonneg hx.1 hy.1
    have h2 := Int.mul_le_mul_of_nonneg_right (show u ≤ 60 by omega) hy.1
    omega
  go_enter Tryd.func6, Tryd.ntmps6
  go_wp2_with fail
  (with_reducible refine hF.out.mono ?_)
  rintro r w1 ⟨rfl, hb1⟩
  have hpr := pbr_new w1 [⟨u, v, c, 0⟩] [0] 1 1 #[.int .i64 u, .int .i64 v, .int .i64 c, .int .i64 0] #[.int .i64 0] rfl rfl rfl rfl (by decide) (by decide) hbigs hbigc
  have hbp := below_pb ((w1.alloc (.cells #[.int .i64 u, .int .i64 v, .int .i64 c, .int .i64 0] ltTy)).alloc (.cells #[.int .i64 0] 2)) pbTy (.slice (some ⟨w1.heap.size, 0, none⟩) 1 1) (.slice (some ⟨w1.heap.size + 1, 0, none⟩) 1 1) n
  have hb3 := hb1.trans ((below_pb3 w1 (.cells #[.int .i64 u, .int .i64 v, .int .i64 c, .int .i64 0] ltTy) (.cells #[.int .i64 0] 2) (pbO pbTy (.slice (some ⟨w1.heap.size, 0, none⟩) 1 1) (.slice (some ⟨w1.heap.size + 1, 0, none⟩) 1 1) n)).mono hb1.size)
  have hB := hidden (allBest_any A _ _ _ _ n _ (hpr.below hbp (Nat.le_refl _)) (hE.out _ hb3))
  unfold BeAt at hB
  rw [hbc] at hB
  replace hb3 := hidden hb3
  clear hpr hbp hb1 hF hbigs hbigc hE
  by_cases hlt : u * v < n
  · have hR : beR [⟨u, v, c, 0⟩] [0] n 100000 = (⟨[], [], 0, 0⟩, false) := if_neg (by rw [hbc, if_pos hlt]; decide)
    rw [if_pos hlt, errOf_121, hR] at hB
    obtain ⟨uv, huv2⟩ : ∃ uv, u * v = uv := ⟨_, rfl⟩
    have hd : decide (uv < n) = true := decide_eq_true (huv2 ▸ hlt)
    rw [huv2] at huv
    clear hlt hR hbc
    generalize beW [⟨u, v, c, 0⟩] [0] n 100000 = wv at *
    go_wp2_with (first
      | (go_at_call 23; (with_reducible refine (nA.out _).mono ?_); rintro e w' ⟨rfl, rfl⟩)
      | (go_at_call 23; (with_reducible refine (nB.out _).mono ?_); rintro e w' ⟨rfl, rfl⟩)
      | (go_at_call 23; (with_reducible refine (nC.out _).mono ?_); rintro e w' ⟨rfl, rfl⟩)
      | (go_at_call 23; (with_reducible refine (nD.out _).mono ?_); rintro e w' ⟨rfl, rfl⟩))
    (with_reducible refine hB.out.mono ?_)
    rintro e w2 ⟨v2, rfl, hr, ho, hb4⟩
    obtain ⟨va, vc, rfl⟩ := reads_slice hr
    simp only [List.length_nil]
    have hend := hidden (below_alloc20 (hb3.out.trans (hb4.mono hb3.out.size)) (reO (.slice va 0 vc) wv 0 false 0))
    obtain ⟨⟨z0, z1, z2, z3, z4⟩, hf⟩ := re_cells (heap_alloc_new w2 (reO (.slice va 0 vc) wv 0 false 0))
    clear hB hr ho hb4 hb3 hf nA nB nC nD
    go_wp2
    go_ret
    exact ⟨rfl, hend.out⟩
  · rw [if_neg hlt, errOf_fine] at hB
    have hkk : ∃ k, 0 ≤ k ∧ k ≤ 5000 ∧ n ≤ k * v ∧ (∀ t : Int, 0 ≤ t → n ≤ t * v → k ≤ t) ∧ (¬ 0 < n ∧ k = 0 ∨ 0 < n ∧ 0 < v ∧ (n + v - 1).tdiv v = k) := by
      by_cases hn0 : 0 < n
      · have hv0 : 0 < v := by
          apply Decidable.byContradiction
          intro hh
          have : v = 0 := by omega
          subst this
          omega
        obtain ⟨k0, k1, k2, k3⟩ := up_is hn0 hv0
        exact ⟨_, k0, by omega, k1, k2, .inr ⟨hn0, hv0, rfl⟩⟩
      · exact ⟨0, by omega, by omega, by omega, fun t q _ => q, .inl ⟨hn0, rfl⟩⟩
    obtain ⟨k, k0, k3, k1, k2, hkk⟩ := hkk
    obtain ⟨t, q1, q2, q3, q4, q5⟩ := uno_facts hx hy hz hk hlt k0 k1 k2
    rw [q1, q2, q3] at hB
    obtain ⟨uv, huv2⟩ : ∃ uv, u * v = uv := ⟨_, rfl⟩
    obtain ⟨kc, hkc2⟩ : ∃ kc, k * c = kc := ⟨_, rfl⟩
    have hkc : 0 ≤ kc ∧ kc ≤ 500000 := by
      have h1 := Int.mul_nonneg k0 hz.1
      have h2 := Int.mul_le_mul_of_nonneg_right k3 hz.1
      omega
    have hd : decide (uv < n) = false := decide_eq_false (huv2 ▸ hlt)
    rw [huv2] at huv
    rw [hkc2] at hB
    clear hlt hbc q1 q2 q3 k1 k2
    generalize beW [⟨u, v, c, 0⟩] [0] n 100000 = wv at *
    generalize (beR [⟨u, v, c, 0⟩] [0] n 100000).1.looked = lk at *
    have hcq : (decide (c = 0) = true ∧ (c == 0) = true) ∨ (decide (c = 0) = false ∧ (c == 0) = false ∧ t = k) := by
      by_cases h : c = 0
      · exact .inl ⟨decide_eq_true h, beq_iff_eq.2 h⟩
      · exact .inr ⟨decide_eq_false h, beq_eq_false_iff_ne.2 h, by omega⟩
    have hwn : decide (n ≤ wv) = true := decide_eq_true q5
    clear q4 q5
    go_wp2_with (first
      | (go_at_call 23; (with_reducible refine (nA.out _).mono ?_); rintro e w' ⟨rfl, rfl⟩)
      | (go_at_call 23; (with_reducible refine (nB.out _).mono ?_); rintro e w' ⟨rfl, rfl⟩)
      | (go_at_call 23; (with_reducible refine (nC.out _).mono ?_); rintro e w' ⟨rfl, rfl⟩)
      | (go_at_call 23; (with_reducible refine (nD.out _).mono ?_); rintro e w' ⟨rfl, rfl⟩))
    (with_reducible refine hB.out.mono ?_)
    rintro e w2 ⟨v2, rfl, hr, ho, hb4⟩
    obtain ⟨va, vc, rfl⟩ := reads_slice hr
    obtain ⟨b, o, rfl, cv⟩ := hr.cell 0 (by simp)
    simp only [List.getD_cons_zero, Nat.add_zero] at cv
    simp only [List.length_cons, List.length_nil, Nat.zero_add]
    have hend := hidden (below_alloc20 (hb3.out.trans (hb4.mono hb3.out.size)) (reO (.slice (some ⟨b, o, none⟩) 1 vc) wv kc true lk))
    obtain ⟨⟨z0, z1, z2, z3, z4⟩, hf⟩ := re_cells (heap_alloc_new w2 (reO (.slice (some ⟨b, o, none⟩) 1 vc) wv kc true lk))
    have cv1 := Go.Lib.cell?_alloc_some (reO (.slice (some ⟨b, o, none⟩) 1 vc) wv kc true lk) cv
    have hnn := Nat.add_zero o
    clear hB hr ho hb4 hb3 hf nA nB nC nD cv
    rcases hcq with ⟨c1, c2⟩ | ⟨c1, c2, rfl⟩
    · rcases hkk with ⟨k1, rfl⟩ | ⟨k1, k2, k4⟩
      · have hdn : decide (0 < n) = false := decide_eq_false (by omega)
        go_wp2
        go_ret
        exact ⟨rfl, hend.out⟩
      · have hdn : decide (0 < n) = true := decide_eq_true k1
        have hv1 : ¬ v = 0 := by omega
        go_wp2
        go_ret
        exact ⟨rfl, hend.out⟩
    · rcases hkk with ⟨k1, rfl⟩ | ⟨k1, k2, k4⟩
      · have hdn : decide (0 < n) = false := decide_eq_false (by omega)
        go_wp2
        go_ret
        exact ⟨rfl, hend.out⟩
      · have hdn : decide (0 < n) = true := decide_eq_true k1
        have hv1 : ¬ v = 0 := by omega
        go_wp2
        go_ret
        exact ⟨rfl, hend.out⟩
end Go.Proofs.YtaojahjgfgmpfaaDoor
