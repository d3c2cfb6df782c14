import Derived.Test.YtpfieoemojnioaaDoorLotsLit
import Derived.Test.YtpfieoemojnioaaDoorLaidOn
namespace Go.Proofs.YtpfieoemojnioaaDoor
open Go.RowKit
set_option linter.unusedVariables false

def capL : List Lt := [⟨1000, 3, 1, 0⟩, ⟨1000, 5, 2, 1⟩, ⟨1000, 7, 0, 1⟩]
theorem capL_ok {k : Int} (h0 : 0 ≤ k) (h1 : k < 9000) : OkP capL [0, k] 0 := by
  refine ⟨⟨by decide, by simp⟩, ?_, ?_, by decide⟩
  · show ∀ x ∈ capL, ltOk 2 x
    decide
  · intro c hc
    simp only [List.mem_cons, List.not_mem_nil, or_false] at hc
    unfold capOk
    rcases hc with rfl | rfl <;> omega
theorem capL_tk {x y z : Int} (hx : 0 ≤ x ∧ x < 1001) (hy : 0 ≤ y ∧ y < 1001) (hz : 0 ≤ z ∧ z < 1001) : TkOk capL [x, y, z] := by
  refine ⟨rfl, fun i hi => ?_⟩
  match i, hi with
  | 0, _ => show 0 ≤ x ∧ x ≤ 1000; omega
  | 1, _ => show 0 ≤ y ∧ y ≤ 1000; omega
  | 2, _ => show 0 ≤ z ∧ z ≤ 1000; omega
theorem capL_wo (k x y z : Int) : wo capL [0, k] [x, y, z] = 3 * x + capd k (5 * y + 7 * z) := by
  have e0 : gs capL [x, y, z] ((0 : Nat) : Int) 3 = 3 * x := by
    simp [gs, sumF, gsF, capL]
    omega
  have e1 : gs capL [x, y, z] ((1 : Nat) : Int) 3 = 5 * y + 7 * z := by
    simp [gs, sumF, gsF, capL]
    omega
  show 0 + capd 0 (gs capL [x, y, z] ((0 : Nat) : Int) 3) + capd k (gs capL [x, y, z] ((1 : Nat) : Int) 3) = _
  rw [e0, e1]
  unfold capd
  simp
theorem capL_co (x y z : Int) : co capL [x, y, z] = x + 2 * y := by
  simp [co, sumF, coF, capL]
  omega
set_option maxRecDepth 100000 in
set_option maxHeartbeats 12800000 in
theorem walk_lotsCaps (a b c d : Int) (A : Nat → Addr) (w : World) (a0 : -9223372036854775808 ≤ a) (a1 : a ≤ 9223372036854775807) (b0 : -9223372036854775808 ≤ b) (b1 : b ≤ 9223372036854775807) (c0 : -9223372036854775808 ≤ c) (c1 : c ≤ 9223372036854775807) (d0 : -9223372036854775808 ≤ d) (d1 : d ≤ 9223372036854775807) (hS : SentsOn [2, 4] w A) :
    Calls Tryd.prog 6 #[.int .i64 a, .int .i64 b, .int .i64 c, .int .i64 d] w fun r w' => r = .returned (.bool true) ∧ Below w.heap.size w w' := by
  have hF := hidden (law18_first A w hS.on)
  have hE := hidden (fun W (h2 : Below w.heap.size w W) => hS.on.below h2 (Nat.le_refl _))
  have nA := hidden (fun W => number_any a 1001 W a0 a1 (by decide) (by decide))
  have nB := hidden (fun W => number_any b 1001 W b0 b1 (by decide) (by decide))
  have nC := hidden (fun W => number_any c 1001 W c0 c1 (by decide) (by decide))
  have nD := hidden (fun W => number_any d 9000 W d0 d1 (by decide) (by decide))
  have hx : 0 ≤ a % 1001 ∧ a % 1001 < 1001 := by omega
  have hy : 0 ≤ b % 1001 ∧ b % 1001 < 1001 := by omega
  have hz : 0 ≤ c % 1001 ∧ c % 1001 < 1001 := by omega
  have hk : 0 ≤ d % 9000 ∧ d % 9000 < 9000 := by omega
  clear a0 a1 b0 b1 c0 c1 d0 d1 hS
  generalize a % 1001 = x at *
  generalize b % 1001 = y at *
  generalize c % 1001 = z at *
  generalize d % 9000 = k at *
  have hok := capL_ok hk.1 hk.2
  have htk := capL_tk hx hy hz
  have hg := goodB_yes hok htk
  have hv : woV capL [0, k] 0 [x, y, z] = 3 * x + capd k (5 * y + 7 * z) := by unfold woV; rw [if_pos hg, capL_wo]
  have hc : coV capL [0, k] 0 [x, y, z] = x + 2 * y := by unfold coV; rw [if_pos hg, capL_co]
  have hfew : goodB capL [0, k] 0 [x, y] = false := goodB_no fun h => absurd (show (2 : Nat) = 3 from h.2.1) (by decide)
  have hover : goodB capL [0, k] 0 [x, y, 1001] = false := goodB_no fun h => by
    have := (h.2.2 2 (by decide)).2
    revert this
    show ¬ (1001 : Int) ≤ 1000
    decide
  have hbelow : goodB capL [0, k] 0 [-1, y, z] = false := goodB_no fun h => by
    have := (h.2.2 0 (by decide)).1
    revert this
    show ¬ (0 : Int) ≤ -1
    decide
  have hfv : woV capL [0, k] 0 [x, y] = 0 := by unfold woV; rw [hfew]; rfl
  have hov : woV capL [0, k] 0 [x, y, 1001] = 0 := by unfold woV; rw [hover]; rfl
  have hbv : coV capL [0, k] 0 [-1, y, z] = 0 := by unfold coV; rw [hbelow]; rfl
  have hbigs : ∀ u ∈ capL, ltBig u := by decide
  have hbigc : ∀ u ∈ ([0, k] : List Int), In64 u := fun u hu => by
    simp only [List.mem_cons, List.not_mem_nil, or_false] at hu
    rcases hu with rfl | rfl
    · decide
    · unfold In64; omega
  go_enter Tryd.func6, Tryd.ntmps6
  go_wp2_with fail
  (with_reducible refine hF.out.mono ?_)
  rintro r w1 ⟨rfl, hb1⟩
  have hpr := pbr_new w1 capL [0, k] 3 2 #[.int .i64 1000, .int .i64 3, .int .i64 1, .int .i64 0, .int .i64 1000, .int .i64 5, .int .i64 2, .int .i64 1, .int .i64 1000, .int .i64 7, .int .i64 0, .int .i64 1] #[.int .i64 0, .int .i64 k] rfl rfl rfl rfl (by decide) (by decide) hbigs hbigc
  have hbp := below_pb ((w1.alloc (.cells #[.int .i64 1000, .int .i64 3, .int .i64 1, .int .i64 0, .int .i64 1000, .int .i64 5, .int .i64 2, .int .i64 1, .int .i64 1000, .int .i64 7, .int .i64 0, .int .i64 1] ltTy)).alloc (.cells #[.int .i64 0, .int .i64 k] 2)) pbTy (.slice (some ⟨w1.heap.size, 0, none⟩) 3 3) (.slice (some ⟨w1.heap.size + 1, 0, none⟩) 2 2) 0
  have hpa := pbAt_new ((w1.alloc (.cells #[.int .i64 1000, .int .i64 3, .int .i64 1, .int .i64 0, .int .i64 1000, .int .i64 5, .int .i64 2, .int .i64 1, .int .i64 1000, .int .i64 7, .int .i64 0, .int .i64 1] ltTy)).alloc (.cells #[.int .i64 0, .int .i64 k] 2)) pbTy (.slice (some ⟨w1.heap.size, 0, none⟩) 3 3) (.slice (some ⟨w1.heap.size + 1, 0, none⟩) 2 2) 0
  have hb3 := hb1.trans ((below_pb3 w1 (.cells #[.int .i64 1000, .int .i64 3, .int .i64 1, .int .i64 0, .int .i64 1000, .int .i64 5, .int .i64 2, .int .i64 1, .int .i64 1000, .int .i64 7, .int .i64 0, .int .i64 1] ltTy) (.cells #[.int .i64 0, .int .i64 k] 2) (pbO pbTy (.slice (some ⟨w1.heap.size, 0, none⟩) 3 3) (.slice (some ⟨w1.heap.size + 1, 0, none⟩) 2 2) 0)).mono hb1.size)
  simp only [World.size_alloc] at hpa
  have hP := hpr.below hbp (Nat.le_refl _)
  clear hpr hbp hb1 hF hbigs hbigc
  go_wp2_with (first
    | (go_at_call 25; (with_reducible refine (nA.out _).mono ?_); rintro e w' ⟨rfl, rfl⟩)
    | (go_at_call 25; (with_reducible refine (nB.out _).mono ?_); rintro e w' ⟨rfl, rfl⟩)
    | (go_at_call 25; (with_reducible refine (nC.out _).mono ?_); rintro e w' ⟨rfl, rfl⟩)
    | (go_at_call 25; (with_reducible refine (nD.out _).mono ?_); rintro e w' ⟨rfl, rfl⟩))
  have hW := worth_lit A _ _ capL [0, k] 0 _ (w1.heap.size + 1 + 1 + 1) (by simp) [x, y, z] 3 #[.int .i64 x, .int .i64 y, .int .i64 z] hP (hE.out _ hb3) rfl rfl (by decide)
  rw [hg, hv] at hW
  replace hW := hidden hW
  (with_reducible refine hW.out.mono ?_)
  rintro r w2 ⟨rfl, hb2⟩
  have hP2 := hP.below hb2 (Nat.le_refl _)
  have hpa2 := hpa.below hb2 (by simp)
  have hb4 := hidden (hb3.trans (hb2.mono hb3.size))
  have hQ := hidden (fun W (h2 : Below w2.heap.size w2 W) => And.intro (hP2.below h2 (Nat.le_refl _)) (And.intro (hE.out W (hb4.out.trans (h2.mono hb4.out.size))) (hpa2.below h2 (Nat.le_refl _)).cells))
  obtain ⟨e0, e1, e2⟩ := hpa2.cells
  have hC := cost_lit A _ _ capL [0, k] 0 w2 _ rfl [x, y, z] 3 #[.int .i64 x, .int .i64 y, .int .i64 z] hP2 (hE.out _ hb4.out) rfl rfl (by decide)
  rw [hg, hc] at hC
  replace hC := hidden hC
  clear hW hP hb2 hb3 hpa hP2 hpa2
  go_wp2_with fail
  (with_reducible refine hC.out.mono ?_)
  rintro r w3 ⟨rfl, hb5⟩
  obtain ⟨hP3, hE3, e0, e1, e2⟩ := hQ.out w3 hb5
  have hW := worth_lit A _ _ capL [0, k] 0 w3 _ rfl [x, y] 2 #[.int .i64 x, .int .i64 y] hP3 hE3 rfl rfl (by decide)
  rw [hfew, hfv] at hW
  replace hW := hidden hW
  replace hb5 := hidden hb5
  have hG : (k = 0 ∧ capd k (5 * y + 7 * z) = 5 * y + 7 * z) ∨ (0 < k ∧ 5 * y + 7 * z ≤ k ∧ capd k (5 * y + 7 * z) = 5 * y + 7 * z) ∨ (0 < k ∧ ¬ 5 * y + 7 * z ≤ k ∧ capd k (5 * y + 7 * z) = k) := by unfold capd; split <;> omega
  generalize capd k (5 * y + 7 * z) = G at *
  have hX := hidden (fun W (h2 : Below w2.heap.size w2 W) => worth_lit A _ _ capL [0, k] 0 W W.heap.size rfl [x, y, 1001] 3 #[.int .i64 x, .int .i64 y, .int .i64 1001] (hQ.out W h2).1 (hQ.out W h2).2.1 rfl rfl (by decide))
  have hY := hidden (fun W (h2 : Below w2.heap.size w2 W) => cost_lit A _ _ capL [0, k] 0 W W.heap.size rfl [-1, y, z] 3 #[.int .i64 (-1), .int .i64 y, .int .i64 z] (hQ.out W h2).1 (hQ.out W h2).2.1 rfl rfl (by decide))
  rw [hover, hov] at hX
  rw [hbelow, hbv] at hY
  replace hQ := hidden (fun W h2 => (hQ.out W h2).2.2)
  clear hC hP3 hE3 hok htk hg hv hc hfew hfv hover hov hbelow hbv hE
  rcases hG with ⟨g1, g2⟩ | ⟨g1, g2, g3⟩ | ⟨g1, g2, g3⟩
  all_goals
    try subst g3
    try subst g1
    try subst g2
    go_wp2_with fail
    (with_reducible refine hW.out.mono ?_)
    rintro r w4 ⟨rfl, hb6⟩
    replace hb6 := hidden (hb5.out.trans (hb6.mono hb5.out.size))
    obtain ⟨e0, e1, e2⟩ := hQ.out w4 hb6.out
    have hX4 := hidden (hX.out w4 hb6.out)
    clear hW hb5 hX
    go_wp2_with fail
    (with_reducible refine hX4.out.mono ?_)
    rintro r w5 ⟨rfl, hb7⟩
    replace hb7 := hidden (hb6.out.trans (hb7.mono hb6.out.size))
    obtain ⟨e0, e1, e2⟩ := hQ.out w5 hb7.out
    have hY5 := hidden (hY.out w5 hb7.out)
    clear hX4 hb6 hY
    go_wp2_with fail
    (with_reducible refine hY5.out.mono ?_)
    rintro r w6 ⟨rfl, hb8⟩
    replace hb8 := hidden (hb4.out.trans ((hb7.out.trans (hb8.mono hb7.out.size)).mono hb4.out.size))
    clear hY5 hb7 hQ
    go_wp2
    go_ret
    exact ⟨by simp, hb8.out⟩
end Go.Proofs.YtpfieoemojnioaaDoor
