/-
  RecRanges: just what is within its bounds has a key.
-/
import Derived.Test.YtjmpmlacaoelgaaDoorRecOrdersWalk
import Derived.Test.YtjmpmlacaoelgaaDoorRef
namespace Go.Proofs.YtjmpmlacaoelgaaDoor
open Go.RowKit
set_option linter.unusedVariables false

theorem keyB_cells {p a b : Int} (h : keyOk p a b) {W : World} {g : Nat} (hB : ByteAt W g (keyB p a b)) : W.cell? ⟨g, 0, none⟩ = some (.int .u8 p) ∧ W.cell? ⟨g, 5, none⟩ = some (.int .u8 (a % 256)) ∧ W.cell? ⟨g, 10, none⟩ = some (.int .u8 (b % 256)) := by
  obtain ⟨h1, h2, h3, h4, h5, h6⟩ := h
  have e := fun i (hi : i < 11) => hB.cell (i := i) (by rw [keyB_len]; exact hi)
  refine ⟨?_, ?_, ?_⟩
  · rw [e 0 (by decide)]; simp [keyB, beb]; omega
  · rw [e 5 (by decide)]; simp [keyB, beb]
  · rw [e 10 (by decide)]; simp [keyB, beb]
theorem keyOk_not6 {p a b : Int} (h : ¬ keyOk p a b) : (decide (0 ≤ p) = false) ∨ (decide (0 ≤ p) = true ∧ decide (p ≤ 255) = false) ∨ (decide (0 ≤ p) = true ∧ decide (p ≤ 255) = true ∧ decide (0 ≤ a) = false) ∨ (decide (0 ≤ p) = true ∧ decide (p ≤ 255) = true ∧ decide (0 ≤ a) = true ∧ decide (a < 1099511627776) = false) ∨
    (decide (0 ≤ p) = true ∧ decide (p ≤ 255) = true ∧ decide (0 ≤ a) = true ∧ decide (a < 1099511627776) = true ∧ decide (0 ≤ b) = false) ∨ (decide (0 ≤ p) = true ∧ decide (p ≤ 255) = true ∧ decide (0 ≤ a) = true ∧ decide (a < 1099511627776) = true ∧ decide (0 ≤ b) = true ∧ decide (b < 1099511627776) = false) := by
  unfold keyOk at h
  simp only [decide_eq_true_iff, decide_eq_false_iff_not]
  omega
theorem mask255 (a : Int) (h0 : 0 ≤ a) (h1 : a ≤ 1099511627775) : bits .and .i64 a 255 = a % 256 := by
  obtain ⟨X, rfl⟩ := Int.eq_ofNat_of_zero_le h0
  have h2 : (BitVec.ofInt 64 (X : Int) &&& BitVec.ofInt 64 255).toNat = X % 256 := by
    rw [BitVec.toNat_and, BitVec.ofInt_natCast, BitVec.toNat_ofNat, Nat.mod_eq_of_lt (by omega)]
    exact Nat.and_two_pow_sub_one_eq_mod X 8
  show IntKind.i64.wrap (((BitVec.ofInt 64 (X : Int) &&& BitVec.ofInt 64 255).toNat : Nat) : Int) = _
  rw [h2, IntKind.wrap_i64]
  omega

set_option maxRecDepth 100000 in
set_option maxHeartbeats 6400000 in
theorem walk_recRanges (p a b : Int) (v : Value) (more : List Int) (A : Nat → Addr) (w : World) (p0 : -9223372036854775808 ≤ p) (p1 : p ≤ 9223372036854775807) (a0 : -9223372036854775808 ≤ a) (a1 : a ≤ 9223372036854775807) (b0 : -9223372036854775808 ≤ b) (b1 : b ≤ 9223372036854775807)
    (hr : Reads .u8 w v more) (hby : ∀ x ∈ more, 0 ≤ x ∧ x ≤ 255) (hS : Sents w A) :
    Calls Tryd.prog 6 #[.int .i64 p, .int .i64 a, .int .i64 b, v] w fun e w' => e = .returned (.bool true) ∧ Below w.heap.size w w' := by
  have hr' := hidden hr
  have hlm : more.length ≤ 9223372036854775807 := by obtain ⟨_, _, _, _, e, _, h, _⟩ := hr; unfold maxLen at h; omega
  obtain ⟨am, cm, rfl⟩ := reads_slice hr
  have hS' := hidden hS
  have hby' := hidden hby
  clear hr hby hS
  by_cases h20 : 20 < more.length
  · have h20' : (20 : Int) < (more.length : Int) := by omega
    clear h20
    go_enter Tryd.func6, Tryd.ntmps6
    go_wp2_with fail
    refine (law9_first _).mono ?_
    rintro e w1 ⟨rfl, hb⟩
    go_wp2
    go_ret
    exact ⟨rfl, hb⟩
  · have h20' : ¬ (20 : Int) < (more.length : Int) := by omega
    have hml := hidden (show more.length ≤ 20 by omega)
    clear h20
    by_cases hp : keyOk p a b
    · obtain ⟨o1, o2, o3, o4, o5, o6⟩ := id hp
      have m1 := mask255 a o3 o4
      have m2 := mask255 b o5 o6
      have l1 : decide (a < 1099511627776) = true := decide_eq_true (by omega)
      have l2 : decide (b < 1099511627776) = true := decide_eq_true (by omega)
      go_enter Tryd.func6, Tryd.ntmps6
      go_wp2_with fail
      refine (law9_first _).mono ?_
      rintro e w1 ⟨rfl, hb⟩
      have hb1 := hidden hb
      have hk1 := hidden (key_yes p a b w1 hp)
      clear hb
      go_wp2_with fail
      refine hk1.out.mono ?_
      rintro e w2 ⟨g, rfl, hg, hB, hb⟩
      have hb2 := hidden (hb1.out.trans (hb.mono hb1.out.size))
      have hx2 := hidden (reads_block (k := .u8) hB (keyB_len p a b) (by decide))
      obtain ⟨k0, k5, k10⟩ := keyB_cells hp hB
      have hj : more.length % 11 < 11 := Nat.mod_lt _ (by decide)
      have hjm : ((more.length : Int) % 11) = ((more.length % 11 : Nat) : Int) := by omega
      have htk := hidden (reads_take hx2.out (m := more.length % 11) (by omega))
      have htl := hidden (show ((keyB p a b).take (more.length % 11)).length < 11 by rw [List.length_take, keyB_len]; omega)
      replace hp := hidden hp
      generalize more.length % 11 = j at *
      clear hb hg hk1 hB
      go_wp2_with fail
      refine (read_end A _ _ w2 htk.out ((hS'.out.below hb2.out (Nat.le_refl _)).on [0] (by simp)) htl.out).mono ?_
      rintro e w3 ⟨rfl, hb⟩
      have hb3 := hidden ((hb2.out.trans (hb.mono hb2.out.size)).alloc (by have := hb2.out.size; have := hb.size; omega) (plO 0 0 0))
      have hx3 := hidden ((hx2.out.below hb (Nat.le_refl _)).below ((Below.refl w3.heap.size w3).alloc (Nat.le_refl _) (plO 0 0 0)) (Nat.le_refl _))
      clear hb htk htl hx2 k0 k5 k10 hj hjm
      go_wp2_with fail
      refine (bytes_any _ (keyB p a b) _ hx3.out (by rw [keyB_len]; decide)).mono ?_
      rintro e w4 ⟨v4, rfl, hown4, hb⟩
      have hb4 := hidden (hb3.out.trans (hb.mono hb3.out.size))
      have hs4 := hidden hb.size
      clear hb hx3
      rw [keyB_len] at hown4
      generalize hw0 : (w3.alloc (plO 0 0 0)).heap.size = B4 at *
      have hBB : w.heap.size ≤ B4 := by have := hb3.out.size; omega
      replace hBB := hidden hBB
      clear hw0 hb3
      go_wp2_with (at_builtin; refine wpList_app rfl _ _ 24 rfl 5 Tryd.underlying24 infoB rfl (by decide) B4 _ _ _ rfl hown4 rfl (hr'.out.below hb4.out (Nat.le_refl _)) (by decide) (by have := hml.out; omega) hs4.out ?_)
      intro v5 w5 hown5 hb
      have hb5 := hidden (hb4.out.trans (hb.mono hBB.out))
      have e5 : cb (keyB p a b) ++ more.map (Value.int .u8) = cb (keyB p a b ++ more) := by simp [cb]
      rw [e5] at hown5
      have hr5 := hidden (reads_of_own (k := .u8) hown5)
      clear hb e5 hown5 hown4
      by_cases h0 : more = []
      · have h0l : (more.length : Int) = 0 := by rw [h0]; rfl
        rw [h0, List.append_nil] at hr5
        replace h0 := hidden h0
        go_wp2_with fail
        refine (read_key hp.out _ _ hr5.out).mono ?_
        rintro e w6 ⟨rfl, hb⟩
        have hb6 := hidden ((hb5.out.trans (hb.mono hb5.out.size)).alloc (by have := hb5.out.size; have := hb.size; omega) (plO p a b))
        clear hb
        go_wp2_with fail
        have hi := hidden (is_any A 101 101 _ (hS'.out.below hb6.out (Nat.le_refl _)) (Or.inr ⟨by decide, by decide⟩))
        refine (hi.out).mono ?_
        rintro e w7 ⟨rfl, hb⟩
        have hb7 := hidden (hb6.out.trans (hb.mono hb6.out.size))
        clear hb
        go_wp2
        go_ret
        exact ⟨rfl, hb7.out⟩
      · have h0p : 0 < more.length := List.length_pos_iff.2 h0
        have h0l : (0 : Int) < (more.length : Int) := by omega
        have h0e : ((more.length : Int) == 0) = false := by rw [beq_eq_false_iff_ne]; omega
        have hl11 := hidden (show 11 < (keyB p a b ++ more).length by rw [List.length_append, keyB_len]; omega)
        replace h0 := hidden h0
        clear h0p
        go_wp2_with fail
        refine (read_shape A _ _ w5 hr5.out ((hS'.out.below hb5.out (Nat.le_refl _)).on [1] (by simp)) hl11.out).mono ?_
        rintro e w6 ⟨rfl, hb⟩
        have hb6 := hidden ((hb5.out.trans (hb.mono hb5.out.size)).alloc (by have := hb5.out.size; have := hb.size; omega) (plO 0 0 0))
        clear hb
        go_wp2_with fail
        have hi := hidden (is_any A 101 101 _ (hS'.out.below hb6.out (Nat.le_refl _)) (Or.inr ⟨by decide, by decide⟩))
        refine (hi.out).mono ?_
        rintro e w7 ⟨rfl, hb⟩
        have hb7 := hidden (hb6.out.trans (hb.mono hb6.out.size))
        clear hb hi
        go_wp2_with fail
        have hi := hidden (is_any A 102 102 _ (hS'.out.below hb7.out (Nat.le_refl _)) (Or.inr ⟨by decide, by decide⟩))
        refine (hi.out).mono ?_
        rintro e w8 ⟨rfl, hb⟩
        have hb8 := hidden (hb7.out.trans (hb.mono hb7.out.size))
        clear hb hi
        go_wp2
        go_ret
        exact ⟨rfl, hb8.out⟩
    · have hk := hidden (fun W (h : Below w.heap.size w W) => key_no A p a b W hp ((hS'.out.below h (Nat.le_refl _)).on [2] (by simp)))
      rcases keyOk_not6 hp with t1 | ⟨t1, t2⟩ | ⟨t1, t2, t3⟩ | ⟨t1, t2, t3, t4⟩ | ⟨t1, t2, t3, t4, t5⟩ | ⟨t1, t2, t3, t4, t5, t6⟩
      all_goals
        clear hp
        go_enter Tryd.func6, Tryd.ntmps6
        go_wp2_with fail
        refine (law9_first _).mono ?_
        rintro e w1 ⟨rfl, hb⟩
        have hb1 := hidden hb
        clear hb
        go_wp2_with fail
        refine (hk.out _ hb1.out).mono ?_
        rintro e w2 ⟨rfl, hb⟩
        have hb2 := hidden (hb1.out.trans (hb.mono hb1.out.size))
        clear hb
        go_wp2_with fail
        have hi := hidden (is_any A 103 103 _ (hS'.out.below hb2.out (Nat.le_refl _)) (Or.inr ⟨by decide, by decide⟩))
        refine (hi.out).mono ?_
        rintro e w3 ⟨rfl, hb⟩
        have hb3 := hidden (hb2.out.trans (hb.mono hb2.out.size))
        clear hb
        go_wp2
        go_ret
        exact ⟨rfl, hb3.out⟩
end Go.Proofs.YtjmpmlacaoelgaaDoor
