/-
  RecOrders: keys stand in the order of their places, and back.
-/
import Derived.Test.YtjmpmlacaoelgaaDoorRecLaw
import Derived.Test.YtjmpmlacaoelgaaDoorRest
namespace Go.Proofs.YtjmpmlacaoelgaaDoor
open Go.RowKit
set_option linter.unusedVariables false

theorem errs3_on {w : World} {A : Nat → Addr} (h : Errs3 w (A 0) (A 1) (A 2)) : ErrsOn [2] w A := fun i hi => by
  obtain rfl : i = 2 := by simpa using hi
  exact h.2.2
theorem key_parts {p a b : Int} (h : keyOk p a b) : unbe ((keyB p a b).take 1) = p ∧ unbe ((keyB p a b).tail.take 5) = a ∧ unbe ((keyB p a b).drop 6) = b := by
  obtain ⟨h1, h2, h3, h4, h5, h6⟩ := h
  rw [← List.drop_one, key_part1, key_part2, key_part3]
  exact ⟨unbe_beb1 p h1 h2, unbe_beb5 a h3 h4, unbe_beb5 b h5 h6⟩
theorem read_key {p a b : Int} (h : keyOk p a b) (v : Value) (w : World) (hr : Reads .u8 w v (keyB p a b)) :
    Calls Tryd.prog 12 #[v] w fun e w' => e = .returned (.tuple #[plV p a b, .nilIface]) ∧ Below w.heap.size w w' := by
  refine (read_ok v _ w hr (keyB_byte p a b) (keyB_len p a b)).mono ?_
  rintro e w' ⟨rfl, hb⟩
  obtain ⟨h1, h2, h3⟩ := key_parts h
  rw [h1, h2, h3]
  exact ⟨rfl, hb⟩
theorem SixIn.below {p a b q c d : Int} {g h : Nat} {W W' : World} (s : SixIn p a b q c d g h W) (hb : Below W.heap.size W W') : SixIn p a b q c d g h W' := by
  obtain ⟨h1, h2, h3, h4, h5, h6⟩ := s
  refine ⟨?_, ?_, ?_, ?_, ?_, ?_⟩ <;> (rw [World.cell?_of_block (w := W) (hb.block _ (World.block_lt_of_cell? W _ (by assumption)))]; assumption)
/-- the ways in which one place may stand to another one, by the tests in their order. -/
theorem ahead_ways (p a b q c d : Int) :
    (decide (p < q) = true ∧ aheadB p a b q c d = true) ∨ (decide (p < q) = false ∧ (p == q) = false ∧ aheadB p a b q c d = false) ∨
      (decide (p < q) = false ∧ (p == q) = true ∧ decide (a < c) = true ∧ aheadB p a b q c d = true) ∨ (decide (p < q) = false ∧ (p == q) = true ∧ decide (a < c) = false ∧ (a == c) = false ∧ aheadB p a b q c d = false) ∨
      (decide (p < q) = false ∧ (p == q) = true ∧ decide (a < c) = false ∧ (a == c) = true ∧ decide (b < d) = true ∧ aheadB p a b q c d = true) ∨
      (decide (p < q) = false ∧ (p == q) = true ∧ decide (a < c) = false ∧ (a == c) = true ∧ decide (b < d) = false ∧ aheadB p a b q c d = false) := by
  unfold aheadB
  simp only [decide_eq_true_iff, decide_eq_false_iff_not, beq_iff_eq, beq_eq_false_iff_ne]
  omega

set_option maxRecDepth 100000 in
set_option maxHeartbeats 3200000 in
theorem walk_recOrders (p a b q c d : Int) (A : Nat → Addr) (w : World) (p0 : -9223372036854775808 ≤ p) (p1 : p ≤ 9223372036854775807) (a0 : -9223372036854775808 ≤ a) (a1 : a ≤ 9223372036854775807) (b0 : -9223372036854775808 ≤ b) (b1 : b ≤ 9223372036854775807)
    (q0 : -9223372036854775808 ≤ q) (q1 : q ≤ 9223372036854775807) (c0 : -9223372036854775808 ≤ c) (c1 : c ≤ 9223372036854775807) (d0 : -9223372036854775808 ≤ d) (d1 : d ≤ 9223372036854775807) (hS : Errs3 w (A 0) (A 1) (A 2)) :
    Calls Tryd.prog 4 #[plV p a b, plV q c d] w fun e w' => e = .returned (.bool true) ∧ Below w.heap.size w w' := by
  have hb0 := hidden (((Below.refl w.heap.size w).alloc (Nat.le_refl _) (plO p a b)).alloc (by simp) (plO q c d))
  have s0 := hidden (sixIn_new w p a b q c d)
  replace hS := hidden (errs3_on hS)
  go_enter Tryd.func4, Tryd.ntmps4
  go_wp2_with fail
  refine (law9_first _).mono ?_
  rintro e w1 ⟨rfl, hb⟩
  have hb1 := hidden (hb0.out.trans (hb.mono hb0.out.size))
  have s1 := hidden (s0.out.below hb)
  clear hb s0 hb0
  obtain ⟨e1, e2, e3, e4, e5, e6⟩ := s1.out
  by_cases hp : keyOk p a b
  · have hk1 := hidden (key_yes p a b w1 hp)
    go_wp2_with fail
    refine hk1.out.mono ?_
    rintro e w2 ⟨g, rfl, hg, hB, hb⟩
    have hb2 := hidden (hb1.out.trans (hb.mono hb1.out.size))
    have s2 := hidden (s1.out.below hb)
    have hx2 := hidden (reads_block (k := .u8) hB (keyB_len p a b) (by decide))
    clear hb s1 hB hg hk1 e1 e2 e3 e4 e5 e6
    obtain ⟨e1, e2, e3, e4, e5, e6⟩ := s2.out
    by_cases hq : keyOk q c d
    · have hk2 := hidden (key_yes q c d w2 hq)
      go_wp2_with fail
      refine hk2.out.mono ?_
      rintro e w3 ⟨g', rfl, hg', hB, hb⟩
      have hb3 := hidden (hb2.out.trans (hb.mono hb2.out.size))
      have s3 := hidden (s2.out.below hb)
      have hx3 := hidden (hx2.out.below hb (Nat.le_refl _))
      have hy3 := hidden (reads_block (k := .u8) hB (keyB_len q c d) (by decide))
      have hrk := hidden (read_key hp _ w3 hx3.out)
      clear hb s2 hB hg' hk2 hx2 e1 e2 e3 e4 e5 e6
      go_wp2_with fail
      refine hrk.out.mono ?_
      rintro e w4 ⟨rfl, hb⟩
      have hb4 := hidden ((hb3.out.trans (hb.mono hb3.out.size)).alloc (by have := hb3.out.size; have := hb.size; omega) (plO p a b))
      have s4 := hidden ((s3.out.below hb).alloc (plO p a b))
      have hx4 := hidden ((hx3.out.below hb (Nat.le_refl _)).below ((Below.refl w4.heap.size w4).alloc (Nat.le_refl _) (plO p a b)) (Nat.le_refl _))
      have hy4 := hidden ((hy3.out.below hb (Nat.le_refl _)).below ((Below.refl w4.heap.size w4).alloc (Nat.le_refl _) (plO p a b)) (Nat.le_refl _))
      have hLs := hidden (recLess_any p a b q c d (w4.alloc (plO p a b)))
      have hAh := hidden (fun W (h : Below (w4.alloc (plO p a b)).heap.size (w4.alloc (plO p a b)) W) => ahead_any _ _ _ _ W (hx4.out.below h (Nat.le_refl _)) (hy4.out.below h (Nat.le_refl _)) (keyB_byte p a b) (keyB_byte q c d) (by rw [keyB_len, keyB_len]))
      rw [ahead_key _ _ _ _ _ _ hp hq] at hAh
      clear hb s3 hx3 hy3 hrk hp hq hx4 hy4
      obtain ⟨e1, e2, e3, e4, e5, e6⟩ := s4.out
      have hw := ahead_ways p a b q c d
      clear p0 p1 a0 a1 b0 b1 q0 q1 c0 c1 d0 d1 s4
      rcases hw with ⟨t1, h⟩ | ⟨t1, t2, h⟩ | ⟨t1, t2, t3, h⟩ | ⟨t1, t2, t3, t4, h⟩ | ⟨t1, t2, t3, t4, t5, h⟩ | ⟨t1, t2, t3, t4, t5, h⟩
      all_goals
        rw [h] at hLs hAh
        clear h
        go_wp2_with fail
        refine hLs.out.mono ?_
        rintro e w5 ⟨rfl, hb⟩
        replace hAh := hidden (hAh.out _ hb)
        have hb5 := hidden (hb4.out.trans (hb.mono hb4.out.size))
        clear hb hb4
        go_wp2_with fail
        refine hAh.out.mono ?_
        rintro e w6 ⟨rfl, m, rfl⟩
        go_wp2
        go_ret
        exact ⟨rfl, below_drewN hb5.out⟩
    · have hk2 := hidden (key_no A q c d w2 hq (hS.out.below hb2.out (Nat.le_refl _)))
      clear hq
      go_wp2_with fail
      refine hk2.out.mono ?_
      rintro e w3 ⟨rfl, hb⟩
      have hb3 := hidden (hb2.out.trans (hb.mono hb2.out.size))
      clear hb
      go_wp2
      go_ret
      exact ⟨rfl, hb3.out⟩
  · have hk1 := hidden (key_no A p a b w1 hp (hS.out.below hb1.out (Nat.le_refl _)))
    clear hp
    go_wp2_with fail
    refine hk1.out.mono ?_
    rintro e w2 ⟨rfl, hb⟩
    have hb2 := hidden (hb1.out.trans (hb.mono hb1.out.size))
    have s2 := hidden (s1.out.below hb)
    clear hb s1 hk1 e1 e2 e3 e4 e5 e6
    obtain ⟨e1, e2, e3, e4, e5, e6⟩ := s2.out
    by_cases hq : keyOk q c d
    · have hk2 := hidden (key_yes q c d w2 hq)
      clear hq
      go_wp2_with fail
      refine hk2.out.mono ?_
      rintro e w3 ⟨g', rfl, hg', hB, hb⟩
      have hb3 := hidden (hb2.out.trans (hb.mono hb2.out.size))
      clear hb hg' hB
      go_wp2
      go_ret
      exact ⟨rfl, hb3.out⟩
    · have hk2 := hidden (key_no A q c d w2 hq (hS.out.below hb2.out (Nat.le_refl _)))
      clear hq
      go_wp2_with fail
      refine hk2.out.mono ?_
      rintro e w3 ⟨rfl, hb⟩
      have hb3 := hidden (hb2.out.trans (hb.mono hb2.out.size))
      clear hb
      go_wp2
      go_ret
      exact ⟨rfl, hb3.out⟩
end Go.Proofs.YtjmpmlacaoelgaaDoor
