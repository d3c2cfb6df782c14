import Derived.Test.YtaojahjgfgmpfaaDoorAllocC
import Derived.Test.YtaojahjgfgmpfaaDoorNumber
import Derived.Test.YtaojahjgfgmpfaaDoorLaidOn
namespace Go.Proofs.YtaojahjgfgmpfaaDoor
open Go Go.RowKit
set_option linter.unusedVariables false

abbrev duoL (x y : Int) : List Lt := [⟨30, 1, x, 0⟩, ⟨20, 1, y, 1⟩]
theorem duo_ok {x y c n : Int} (hx : 0 ≤ x ∧ x < 9) (hy : 0 ≤ y ∧ y < 30) (hc : 1 ≤ c ∧ c ≤ 20) (hn : 0 ≤ n ∧ n < 45) : OkP (duoL x y) [c, 0] n := by
  refine ⟨⟨by simp, by simp⟩, ?_, ?_, ?_⟩
  · intro z hz
    simp only [List.mem_cons, List.not_mem_nil, or_false] at hz
    rcases hz with rfl | rfl <;> (unfold ltOk; simp; omega)
  · intro z hz
    simp only [List.mem_cons, List.not_mem_nil, or_false] at hz
    unfold capOk
    rcases hz with rfl | rfl <;> omega
  · unfold capOk; omega
theorem duo_wo {x y c : Int} (hc : 1 ≤ c) (p q : Int) : wo (duoL x y) [c, 0] [p, q] = min p c + q := by
  have e0 : gs (duoL x y) [p, q] ((0 : Nat) : Int) 2 = p := by simp [gs, sumF, gsF]
  have e1 : gs (duoL x y) [p, q] ((1 : Nat) : Int) 2 = q := by simp [gs, sumF, gsF]
  show 0 + capd c (gs (duoL x y) [p, q] ((0 : Nat) : Int) 2) + capd 0 (gs (duoL x y) [p, q] ((1 : Nat) : Int) 2) = _
  rw [e0, e1]
  unfold capd
  rw [if_neg (by omega), if_pos rfl]
  omega
theorem duo_co (x y p q : Int) : co (duoL x y) [p, q] = p * x + q * y := by simp [co, sumF, coF]
theorem duo_beC {x y c n : Int} (hx : 0 ≤ x ∧ x < 9) (hy : 0 ≤ y ∧ y < 30) (hc : 1 ≤ c ∧ c ≤ 20) (hn : 0 ≤ n ∧ n < 45) : beC (duoL x y) [c, 0] n 100000 = if c + 20 < n then 121 else 0 := by
  unfold beC
  rw [if_pos (duo_ok hx hy hc hn), if_neg (by omega)]
  show (if wo (duoL x y) [c, 0] [30, 20] < n then (121 : Int) else 0) = _
  rw [duo_wo hc.1, show min 30 c + 20 = c + 20 by omega]
theorem duo_facts {x y c n m : Int} (hx : 0 ≤ x ∧ x < 9) (hy : x ≤ y ∧ y < 30) (hc : 1 ≤ c ∧ c ≤ 20) (hn : 0 ≤ n ∧ n < 45) (hf : ¬ c + 20 < n) (hm : m = min n c) :
    (beR (duoL x y) [c, 0] n 100000).2 = true ∧ (beR (duoL x y) [c, 0] n 100000).1.cost = m * x + (n - m) * y ∧ n ≤ beW (duoL x y) [c, 0] n 100000 := by
  have h0 : beC (duoL x y) [c, 0] n 100000 = 0 := by rw [duo_beC hx (by omega) hc hn, if_neg hf]
  obtain ⟨hF, hW⟩ := be_found h0
  have hl : (beR (duoL x y) [c, 0] n 100000).1.best.length = 2 := hF.tk.1
  have hs : (beR (duoL x y) [c, 0] n 100000).2 = true := by
    cases hb : (beR (duoL x y) [c, 0] n 100000).2
    · have := hF.many hb
      have e : pdL (duoL x y) = 651 := rfl
      omega
    · rfl
  obtain ⟨p, q, ht⟩ : ∃ p q, (beR (duoL x y) [c, 0] n 100000).1.best = [p, q] := by
    match (beR (duoL x y) [c, 0] n 100000).1.best, hl with
    | [p, q], _ => exact ⟨p, q, rfl⟩
  have ht0 := hF.tk.2 0 (by simp)
  have ht1 := hF.tk.2 1 (by simp)
  have hft := hF.fits
  have hco := hF.cost
  rw [ht] at ht0 ht1 hft hco
  rw [duo_wo hc.1] at hft
  rw [duo_co] at hco
  simp only [List.getD_cons_zero, List.getD_cons_succ] at ht0 ht1
  have hmin := hF.sure hs [m, n - m] ⟨rfl, fun i hi => by
    match i, hi with
    | 0, _ => show 0 ≤ m ∧ m ≤ 30; omega
    | 1, _ => show 0 ≤ n - m ∧ n - m ≤ 20; omega⟩ (by rw [duo_wo hc.1]; omega)
  rw [duo_co, hco] at hmin
  have h1 : n * x ≤ (p + q) * x := Int.mul_le_mul_of_nonneg_right (by omega) hx.1
  have h2 : (n - m) * (y - x) ≤ q * (y - x) := Int.mul_le_mul_of_nonneg_right (by omega) (by omega)
  refine ⟨hs, ?_, by rw [hW, ht, duo_wo hc.1]; exact hft⟩
  rw [hco]
  apply Int.le_antisymm hmin
  simp only [Int.add_mul, Int.sub_mul, Int.mul_sub] at h1 h2 ⊢
  omega
set_option maxRecDepth 100000 in
set_option maxHeartbeats 12800000 in
theorem walk_allocCaps (a b c d : Int) (A : Nat → Addr) (w : World) (a0 : -9223372036854775808 ≤ a) (a1 : a ≤ 9223372036854775807) (b0 : -9223372036854775808 ≤ b) (b1 : b ≤ 9223372036854775807) (c0 : -9223372036854775808 ≤ c) (c1 : c ≤ 9223372036854775807) (d0 : -9223372036854775808 ≤ d) (d1 : d ≤ 9223372036854775807) (hS : SentsOn [2, 4, 20] w A) :
    Calls Tryd.prog 7 #[.int .i64 a, .int .i64 b, .int .i64 c, .int .i64 d] w fun r w' => r = .returned (.bool true) ∧ Below w.heap.size w w' := by
  have hF := hidden (law20_first A w hS.on)
  have hE := hidden (fun W (h2 : Below w.heap.size w W) => hS.on.below h2 (Nat.le_refl _))
  have nA := hidden (fun W => number_any a 20 W a0 a1 (by decide) (by decide))
  have nB := hidden (fun W => number_any b 45 W b0 b1 (by decide) (by decide))
  have nC := hidden (fun W => number_any c 9 W c0 c1 (by decide) (by decide))
  have nD := hidden (fun W => number_any d 9 W d0 d1 (by decide) (by decide))
  have hx0 : 0 ≤ a % 20 ∧ a % 20 < 20 := by omega
  have hk : 0 ≤ b % 45 ∧ b % 45 < 45 := by omega
  have hx : 0 ≤ c % 9 ∧ c % 9 < 9 := by omega
  have hz : 0 ≤ d % 9 ∧ d % 9 < 9 := by omega
  clear a0 a1 b0 b1 c0 c1 d0 d1 hS
  generalize a % 20 = lim at *
  generalize b % 45 = n at *
  generalize c % 9 = x at *
  generalize d % 9 = z at *
  obtain ⟨cp, hcp⟩ : ∃ cp, lim + 1 = cp := ⟨_, rfl⟩
  obtain ⟨y, hyy⟩ : ∃ y, x + z + 1 = y := ⟨_, rfl⟩
  have hc : 1 ≤ cp ∧ cp ≤ 20 := by omega
  have hy : x ≤ y ∧ y < 30 := by omega
  have hbigs : ∀ t ∈ duoL x y, ltBig t := fun t hq => by
    simp only [List.mem_cons, List.not_mem_nil, or_false] at hq
    unfold ltBig In64
    rcases hq with rfl | rfl <;> (simp; omega)
  have hbigc : ∀ t ∈ ([cp, 0] : List Int), In64 t := fun t hq => by
    simp only [List.mem_cons, List.not_mem_nil, or_false] at hq
    unfold In64
    rcases hq with rfl | rfl <;> omega
  have hbc := duo_beC hx (show 0 ≤ y ∧ y < 30 by omega) hc hk
  go_enter Tryd.func7, Tryd.ntmps7
  go_wp2_with fail
  (with_reducible refine hF.out.mono ?_)
  rintro r w1 ⟨rfl, hb1⟩
  have hpr := pbr_new w1 (duoL x y) [cp, 0] 2 2 #[.int .i64 30, .int .i64 1, .int .i64 x, .int .i64 0, .int .i64 20, .int .i64 1, .int .i64 y, .int .i64 1] #[.int .i64 cp, .int .i64 0] rfl rfl rfl rfl (by decide) (by decide) hbigs hbigc
  have hbp := below_pb ((w1.alloc (.cells #[.int .i64 30, .int .i64 1, .int .i64 x, .int .i64 0, .int .i64 20, .int .i64 1, .int .i64 y, .int .i64 1] ltTy)).alloc (.cells #[.int .i64 cp, .int .i64 0] 2)) pbTy (.slice (some ⟨w1.heap.size, 0, none⟩) 2 2) (.slice (some ⟨w1.heap.size + 1, 0, none⟩) 2 2) n
  have hb3 := hb1.trans ((below_pb3 w1 (.cells #[.int .i64 30, .int .i64 1, .int .i64 x, .int .i64 0, .int .i64 20, .int .i64 1, .int .i64 y, .int .i64 1] ltTy) (.cells #[.int .i64 cp, .int .i64 0] 2) (pbO pbTy (.slice (some ⟨w1.heap.size, 0, none⟩) 2 2) (.slice (some ⟨w1.heap.size + 1, 0, none⟩) 2 2) n)).mono hb1.size)
  have hB := hidden (allBest_any A _ _ _ _ n _ (hpr.below hbp (Nat.le_refl _)) (hE.out _ hb3))
  unfold BeAt at hB
  rw [hbc] at hB
  replace hb3 := hidden hb3
  clear hpr hbp hb1 hF hbigs hbigc hE
  by_cases hlt : cp + 20 < n
  · rw [if_pos hlt, errOf_121] at hB
    have hd : decide (cp + 20 < n) = true := decide_eq_true hlt
    clear hlt hbc
    generalize beW (duoL x y) [cp, 0] n 100000 = wv at *
    generalize (beR (duoL x y) [cp, 0] n 100000) = R at *
    obtain ⟨⟨Rst, Rb, Rk, Rl⟩, Rs⟩ := R
    simp only at hB
    go_wp2_with (first
      | (go_at_call 23; (with_reducible refine (nA.out _).mono ?_); rintro e w' ⟨rfl, rfl⟩)
      | (go_at_call 23; (with_reducible refine (nB.out _).mono ?_); rintro e w' ⟨rfl, rfl⟩)
      | (go_at_call 23; (with_reducible refine (nC.out _).mono ?_); rintro e w' ⟨rfl, rfl⟩)
      | (go_at_call 23; (with_reducible refine (nD.out _).mono ?_); rintro e w' ⟨rfl, rfl⟩))
    (with_reducible refine hB.out.mono ?_)
    rintro e w2 ⟨v2, rfl, hr, ho, hb4⟩
    obtain ⟨va, vc, rfl⟩ := reads_slice hr
    generalize hv : Rb.length = rl at *
    replace hv := hidden hv
    have hend := hidden (below_alloc20 (hb3.out.trans (hb4.mono hb3.out.size)) (reO (.slice va rl vc) wv Rk Rs Rl))
    clear hB hr ho hb4 hb3 nA nB nC nD
    go_wp2
    go_ret
    exact ⟨rfl, hend.out⟩
  · rw [if_neg hlt, errOf_fine] at hB
    obtain ⟨m, hm⟩ : ∃ m, min n cp = m := ⟨_, rfl⟩
    obtain ⟨q2, q3, q5⟩ := duo_facts hx hy hc hk hlt hm.symm
    have hmb : 0 ≤ m ∧ m ≤ 20 ∧ m ≤ n := by omega
    rw [q2, q3] at hB
    obtain ⟨mx, hmx⟩ : ∃ mx, m * x = mx := ⟨_, rfl⟩
    obtain ⟨my, hmy⟩ : ∃ my, (n - m) * y = my := ⟨_, rfl⟩
    have hxb : 0 ≤ mx ∧ mx ≤ 180 := by
      have h1 := Int.mul_nonneg hmb.1 hx.1
      have h2 := Int.mul_le_mul hmb.2.1 (show x ≤ 9 by omega) hx.1 (by decide)
      omega
    have hyb : 0 ≤ my ∧ my ≤ 1350 := by
      have h1 := Int.mul_nonneg (show 0 ≤ n - m by omega) (show 0 ≤ y by omega)
      have h2 := Int.mul_le_mul (show n - m ≤ 45 by omega) (show y ≤ 30 by omega) (show 0 ≤ y by omega) (by decide)
      omega
    rw [hmx, hmy] at hB
    have hd : decide (cp + 20 < n) = false := decide_eq_false hlt
    clear hlt hbc q2 q3
    generalize beW (duoL x y) [cp, 0] n 100000 = wv at *
    generalize (beR (duoL x y) [cp, 0] n 100000).1.looked = lk at *
    generalize (beR (duoL x y) [cp, 0] n 100000).1.best = Rb at *
    have hwn : decide (n ≤ wv) = true := decide_eq_true q5
    clear q5
    go_wp2_with (first
      | (go_at_call 23; (with_reducible refine (nA.out _).mono ?_); rintro e w' ⟨rfl, rfl⟩)
      | (go_at_call 23; (with_reducible refine (nB.out _).mono ?_); rintro e w' ⟨rfl, rfl⟩)
      | (go_at_call 23; (with_reducible refine (nC.out _).mono ?_); rintro e w' ⟨rfl, rfl⟩)
      | (go_at_call 23; (with_reducible refine (nD.out _).mono ?_); rintro e w' ⟨rfl, rfl⟩))
    (with_reducible refine hB.out.mono ?_)
    rintro e w2 ⟨v2, rfl, hr, ho, hb4⟩
    obtain ⟨va, vc, rfl⟩ := reads_slice hr
    generalize hv : Rb.length = rl at *
    replace hv := hidden hv
    have hend := hidden (below_alloc20 (hb3.out.trans (hb4.mono hb3.out.size)) (reO (.slice va rl vc) wv (mx + my) true lk))
    obtain ⟨⟨z0, z1, z2, z3, z4⟩, hf⟩ := re_cells (heap_alloc_new w2 (reO (.slice va rl vc) wv (mx + my) true lk))
    clear hB hr ho hb4 hb3 hf nA nB nC nD
    go_wp2
    go_ret
    exact ⟨rfl, hend.out⟩
end Go.Proofs.YtaojahjgfgmpfaaDoor
