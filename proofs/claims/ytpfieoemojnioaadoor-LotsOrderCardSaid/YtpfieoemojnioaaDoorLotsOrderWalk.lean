import Derived.Test.YtpfieoemojnioaaDoorLotsLit
import Derived.Test.YtpfieoemojnioaaDoorLaidOn
namespace Go.Proofs.YtpfieoemojnioaaDoor
open Go.RowKit
set_option linter.unusedVariables false

def twoL (x y : Int) : List Lt := [⟨x, 4, 5, 0⟩, ⟨y, 4, 3, 0⟩]
theorem twoL_ok {x y n : Int} (hx : 0 ≤ x ∧ x < 20) (hy : 0 ≤ y ∧ y < 20) (hn : 0 ≤ n ∧ n < 1000) : OkP (twoL x y) [0] n := by
  refine ⟨⟨by simp [twoL], by simp⟩, ?_, ?_, by unfold capOk; omega⟩
  · intro z hz
    unfold twoL at hz
    simp only [List.mem_cons, List.not_mem_nil, or_false] at hz
    unfold ltOk
    rcases hz with rfl | rfl <;> simp <;> omega
  · intro c hc
    simp only [List.mem_cons, List.not_mem_nil, or_false] at hc
    subst hc
    decide
theorem twoL_ord (x y : Int) : ordL (twoL x y) = [1, 0] := by
  have h : dear (⟨x, 4, 5, 0⟩ : Lt) ⟨y, 4, 3, 0⟩ = true := by
    unfold dear
    simp
  show ins (twoL x y) (ins (twoL x y) [] 0) 1 = _
  have e0 : ins (twoL x y) [] 0 = [0] := rfl
  rw [e0]
  unfold ins
  have e1 : insAt (twoL x y) [0] 1 ([0] : List Nat).length = 0 := by
    show insAt (twoL x y) [0] 1 1 = 0
    rw [insAt, if_pos (show dear ((twoL x y).getD (([0] : List Nat).getD 0 0) ltZ) ((twoL x y).getD 1 ltZ) = true from h)]
    rfl
  rw [e1]
  rfl
theorem twoL_wo (x y a b : Int) : wo (twoL x y) [0] [a, b] = 4 * (a + b) := by
  have e0 : gs (twoL x y) [a, b] ((0 : Nat) : Int) 2 = 4 * (a + b) := by
    simp [gs, sumF, gsF, twoL]
    omega
  show 0 + capd 0 (gs (twoL x y) [a, b] ((0 : Nat) : Int) 2) = _
  rw [e0]
  unfold capd
  simp
theorem gl_second {x y n U a : Int} (hU : n ≤ 4 * U ∧ 4 * U < n + 4) : ∀ (f : Nat) (b : Int), 0 ≤ b → b ≤ y → y - b ≤ (f : Int) → gl (twoL x y) [0] n 1 f ([a, b], 4 * (a + b)) = ([a, max b (min y (U - a))], 4 * (a + max b (min y (U - a))))
  | 0, b, h0, h1, h2 => by
    have e : max b (min y (U - a)) = b := by omega
    rw [e]
    rfl
  | f + 1, b, h0, h1, h2 => by
    by_cases hc : 4 * (a + b) < n ∧ b < y
    · have e1 : plus ([a, b] : List Int) 1 = [a, b + 1] := rfl
      have e2 : wo (twoL x y) [0] (plus ([a, b] : List Int) 1) = 4 * (a + (b + 1)) := by rw [e1, twoL_wo]
      rw [gl_go (show (([a, b], 4 * (a + b)) : List Int × Int).2 < n ∧ (([a, b], 4 * (a + b)) : List Int × Int).1.getD 1 0 < ((twoL x y).getD 1 ltZ).u from hc) (by show ¬ wo (twoL x y) [0] (plus ([a, b] : List Int) 1) ≤ 4 * (a + b); rw [e2]; omega)]
      show gl (twoL x y) [0] n 1 f (plus ([a, b] : List Int) 1, wo (twoL x y) [0] (plus ([a, b] : List Int) 1)) = _
      rw [e2, e1, gl_second hU f (b + 1) (by omega) (by omega) (by omega)]
      have e : max (b + 1) (min y (U - a)) = max b (min y (U - a)) := by omega
      rw [e]
    · have e : max b (min y (U - a)) = b := by omega
      rw [gl_stop (show ¬ ((([a, b], 4 * (a + b)) : List Int × Int).2 < n ∧ (([a, b], 4 * (a + b)) : List Int × Int).1.getD 1 0 < ((twoL x y).getD 1 ltZ).u) from hc), e]
theorem gl_first {x y n U b : Int} (hU : n ≤ 4 * U ∧ 4 * U < n + 4) : ∀ (f : Nat) (a : Int), 0 ≤ a → a ≤ x → x - a ≤ (f : Int) → gl (twoL x y) [0] n 0 f ([a, b], 4 * (a + b)) = ([max a (min x (U - b)), b], 4 * (max a (min x (U - b)) + b))
  | 0, a, h0, h1, h2 => by
    have e : max a (min x (U - b)) = a := by omega
    rw [e]
    rfl
  | f + 1, a, h0, h1, h2 => by
    by_cases hc : 4 * (a + b) < n ∧ a < x
    · have e1 : plus ([a, b] : List Int) 0 = [a + 1, b] := rfl
      have e2 : wo (twoL x y) [0] (plus ([a, b] : List Int) 0) = 4 * (a + 1 + b) := by rw [e1, twoL_wo]
      rw [gl_go (show (([a, b], 4 * (a + b)) : List Int × Int).2 < n ∧ (([a, b], 4 * (a + b)) : List Int × Int).1.getD 0 0 < ((twoL x y).getD 0 ltZ).u from hc) (by show ¬ wo (twoL x y) [0] (plus ([a, b] : List Int) 0) ≤ 4 * (a + b); rw [e2]; omega)]
      show gl (twoL x y) [0] n 0 f (plus ([a, b] : List Int) 0, wo (twoL x y) [0] (plus ([a, b] : List Int) 0)) = _
      rw [e2, e1, gl_first hU f (a + 1) (by omega) (by omega) (by omega)]
      have e : max (a + 1) (min x (U - b)) = max a (min x (U - b)) := by omega
      rw [e]
    · have e : max a (min x (U - b)) = a := by omega
      rw [gl_stop (show ¬ ((([a, b], 4 * (a + b)) : List Int × Int).2 < n ∧ (([a, b], 4 * (a + b)) : List Int × Int).1.getD 0 0 < ((twoL x y).getD 0 ltZ).u) from hc), e]
theorem twoL_gr {x y n U : Int} (hx : 0 ≤ x ∧ x < 20) (hy : 0 ≤ y ∧ y < 20) (hn : 0 ≤ n) (hU : n ≤ 4 * U ∧ 4 * U < n + 4) :
    gR (twoL x y) [0] n = ([max 0 (min x (U - max 0 (min y (U - 0)))), max 0 (min y (U - 0))], 4 * (max 0 (min x (U - max 0 (min y (U - 0)))) + max 0 (min y (U - 0)))) := by
  unfold gR gAll
  rw [twoL_ord]
  show gl (twoL x y) [0] n 0 1000 (gl (twoL x y) [0] n 1 1000 ([0, 0], 4 * (0 + 0))) = _
  rw [gl_second hU 1000 0 (by omega) (by omega) (by omega), gl_first hU 1000 0 (by omega) (by omega) (by omega)]
set_option maxRecDepth 100000 in
set_option maxHeartbeats 12800000 in
theorem walk_lotsOrder (a b c : Int) (A : Nat → Addr) (w : World) (a0 : -9223372036854775808 ≤ a) (a1 : a ≤ 9223372036854775807) (b0 : -9223372036854775808 ≤ b) (b1 : b ≤ 9223372036854775807) (c0 : -9223372036854775808 ≤ c) (c1 : c ≤ 9223372036854775807) (hS : SentsOn [2, 4] w A) :
    Calls Tryd.prog 7 #[.int .i64 a, .int .i64 b, .int .i64 c] w fun r w' => r = .returned (.bool true) ∧ Below w.heap.size w w' := by
  have hF := hidden (law18_first A w hS.on)
  have hE := hidden (fun W (h2 : Below w.heap.size w W) => hS.on.below h2 (Nat.le_refl _))
  have nB := hidden (fun W => number_any b 20 W b0 b1 (by decide) (by decide))
  have nC := hidden (fun W => number_any c 20 W c0 c1 (by decide) (by decide))
  have hx : 0 ≤ b % 20 ∧ b % 20 < 20 := by omega
  have hy : 0 ≤ c % 20 ∧ c % 20 < 20 := by omega
  have nA := hidden (fun W => number_any a (8 * (b % 20 + c % 20) + 9) W a0 a1 (by omega) (by omega))
  have hn : 0 ≤ a % (8 * (b % 20 + c % 20) + 9) ∧ a % (8 * (b % 20 + c % 20) + 9) < 8 * (b % 20 + c % 20) + 9 := ⟨Int.emod_nonneg _ (by omega), Int.emod_lt_of_pos _ (by omega)⟩
  clear a0 a1 b0 b1 c0 c1 hS
  generalize a % (8 * (b % 20 + c % 20) + 9) = n at *
  generalize b % 20 = x at *
  generalize c % 20 = y at *
  have hok := twoL_ok hx hy (n := n) ⟨hn.1, by omega⟩
  obtain ⟨U, hU⟩ : ∃ U, (n + 3) / 4 = U := ⟨_, rfl⟩
  have hU2 : n ≤ 4 * U ∧ 4 * U < n + 4 := by omega
  have hgr := twoL_gr hx hy hn.1 hU2
  have hbigs : ∀ u ∈ twoL x y, ltBig u := fun u hu => by
    unfold twoL at hu
    simp only [List.mem_cons, List.not_mem_nil, or_false] at hu
    unfold ltBig In64
    rcases hu with rfl | rfl <;> simp <;> omega
  have hbigc : ∀ u ∈ ([0] : List Int), In64 u := by decide
  have hUb : 0 ≤ U ∧ U ≤ 200 := by omega
  have hways : (x + y < U ∧ grB (twoL x y) [0] n = false ∧ grL (twoL x y) [0] n = []) ∨ (¬ x + y < U ∧ U ≤ y ∧ grB (twoL x y) [0] n = true ∧ grL (twoL x y) [0] n = [0, U]) ∨ (¬ x + y < U ∧ ¬ U ≤ y ∧ grB (twoL x y) [0] n = true ∧ grL (twoL x y) [0] n = [U - y, y]) := by
    by_cases q : x + y < U
    · have h1 := grB_less (L := twoL x y) (C := [0]) (n := n) (by rw [hgr]; show 4 * _ < n; omega)
      exact .inl ⟨q, h1, grL_no h1⟩
    · have h1 := grB_fine hok (by rw [hgr]; show ¬ 4 * _ < n; omega)
      by_cases q2 : U ≤ y
      · refine .inr (.inl ⟨q, q2, h1, ?_⟩)
        rw [grL_yes h1, hgr]
        have e1 : max 0 (min x (U - max 0 (min y (U - 0)))) = 0 := by omega
        have e2 : max 0 (min y (U - 0)) = U := by omega
        rw [e1, e2]
      · refine .inr (.inr ⟨q, q2, h1, ?_⟩)
        rw [grL_yes h1, hgr]
        have e1 : max 0 (min x (U - max 0 (min y (U - 0)))) = U - y := by omega
        have e2 : max 0 (min y (U - 0)) = y := by omega
        rw [e1, e2]
  clear hok hgr hU2
  go_enter Tryd.func7, Tryd.ntmps7
  go_wp2_with fail
  (with_reducible refine hF.out.mono ?_)
  rintro r w1 ⟨rfl, hb1⟩
  have hpr := pbr_new w1 (twoL x y) [0] 2 1 #[.int .i64 x, .int .i64 4, .int .i64 5, .int .i64 0, .int .i64 y, .int .i64 4, .int .i64 3, .int .i64 0] #[.int .i64 0] rfl rfl rfl rfl (by decide) (by decide) hbigs hbigc
  have hbp := below_pb ((w1.alloc (.cells #[.int .i64 x, .int .i64 4, .int .i64 5, .int .i64 0, .int .i64 y, .int .i64 4, .int .i64 3, .int .i64 0] ltTy)).alloc (.cells #[.int .i64 0] 2)) pbTy (.slice (some ⟨w1.heap.size, 0, none⟩) 2 2) (.slice (some ⟨w1.heap.size + 1, 0, none⟩) 1 1) n
  have hb3 := hb1.trans ((below_pb3 w1 (.cells #[.int .i64 x, .int .i64 4, .int .i64 5, .int .i64 0, .int .i64 y, .int .i64 4, .int .i64 3, .int .i64 0] ltTy) (.cells #[.int .i64 0] 2) (pbO pbTy (.slice (some ⟨w1.heap.size, 0, none⟩) 2 2) (.slice (some ⟨w1.heap.size + 1, 0, none⟩) 1 1) n)).mono hb1.size)
  have hP := hpr.below hbp (Nat.le_refl _)
  have hG := hidden (ltGreedy_any A _ _ (twoL x y) [0] n _ hP (hE.out _ hb3))
  unfold GreedyAt at hG
  replace hb3 := hidden hb3
  clear hpr hbp hb1 hF hbigs hbigc hP hE
  go_wp2_with (first
    | (go_at_call 25; (with_reducible refine (nA.out _).mono ?_); rintro e w' ⟨rfl, rfl⟩)
    | (go_at_call 25; (with_reducible refine (nB.out _).mono ?_); rintro e w' ⟨rfl, rfl⟩)
    | (go_at_call 25; (with_reducible refine (nC.out _).mono ?_); rintro e w' ⟨rfl, rfl⟩))
  (with_reducible refine hG.out.mono ?_)
  rintro r w2 ⟨v, rfl, hr, hb2⟩
  have hb4 := hidden (hb3.out.trans (hb2.mono hb3.out.size))
  clear hG hb2 hb3 nA nB nC
  rcases hways with ⟨g1, g2, g3⟩ | ⟨g1, g4, g2, g3⟩ | ⟨g1, g4, g2, g3⟩
  · rw [g2]
    rw [g3] at hr
    obtain ⟨va, vc, rfl⟩ := reads_slice hr
    clear g2 g3 hr
    go_wp2
    go_ret
    exact ⟨rfl, hb4.out⟩
  · rw [g2]
    rw [g3] at hr
    obtain ⟨va, vc, rfl⟩ := reads_slice hr
    obtain ⟨bb, oo, rfl, q0⟩ := hr.cell 0 (by simp)
    obtain ⟨_, _, e, q1⟩ := hr.cell 1 (by simp)
    simp only [Option.some.injEq, Addr.mk.injEq, and_true] at e
    obtain ⟨rfl, rfl⟩ := e
    simp only [List.getD_cons_zero, List.getD_cons_succ, Nat.add_zero] at q0 q1
    simp only [List.length_cons, List.length_nil, Nat.zero_add]
    clear g2 g3 hr
    go_wp2
    go_ret
    exact ⟨by simp, hb4.out⟩
  · rw [g2]
    rw [g3] at hr
    obtain ⟨va, vc, rfl⟩ := reads_slice hr
    obtain ⟨bb, oo, rfl, q0⟩ := hr.cell 0 (by simp)
    obtain ⟨_, _, e, q1⟩ := hr.cell 1 (by simp)
    simp only [Option.some.injEq, Addr.mk.injEq, and_true] at e
    obtain ⟨rfl, rfl⟩ := e
    simp only [List.getD_cons_zero, List.getD_cons_succ, Nat.add_zero] at q0 q1
    simp only [List.length_cons, List.length_nil, Nat.zero_add]
    clear g2 g3 hr
    go_wp2
    go_ret
    exact ⟨by simp, hb4.out⟩
end Go.Proofs.YtpfieoemojnioaaDoor
