/-
  The document's own operations (pledgeref26): Uses, Name, field, has, Valid.
-/
import Derived.Test.YtongpgnnhpbcpaaGreatDoorOp1
import Derived.Test.YtongpgnnhpbcpaaGreatDoorRef
namespace Go.Proofs.YtongpgnnhpbcpaaGreatDoor
open Go.RowKit
set_option linter.unusedVariables false

def usV (kd : Int) : List UInt8 := if 1 ≤ kd ∧ kd ≤ 16 then useS kd.toNat else []
theorem usV_in {K : Nat} (h1 : 1 ≤ K) (h2 : K ≤ 16) : usV (K : Int) = useS K := by
  unfold usV
  rw [if_pos (by omega), Int.toNat_natCast]
theorem kd_cases (kd : Int) : (∃ K : Nat, 1 ≤ K ∧ K ≤ 16 ∧ kd = (K : Int)) ∨ ¬ (1 ≤ kd ∧ kd ≤ 16) := by
  by_cases h : 1 ≤ kd ∧ kd ≤ 16
  · exact .inl ⟨kd.toNat, by omega, by omega, by omega⟩
  · exact .inr h
theorem nat_16 {K : Nat} (h1 : 1 ≤ K) (h2 : K ≤ 16) : K = 1 ∨ K = 2 ∨ K = 3 ∨ K = 4 ∨ K = 5 ∨ K = 6 ∨ K = 7 ∨ K = 8 ∨ K = 9 ∨ K = 10 ∨ K = 11 ∨ K = 12 ∨ K = 13 ∨ K = 14 ∨ K = 15 ∨ K = 16 := by omega
theorem ne_of_out {kd : Int} (h : ¬ (1 ≤ kd ∧ kd ≤ 16)) {i : Int} (h1 : 1 ≤ i) (h2 : i ≤ 16) : (kd == i) = false := by
  rw [beq_eq_false_iff_ne]; omega
set_option maxHeartbeats 3200000 in
theorem refUses_any (kd : Int) (w : World) : Calls Tryz.prog 21 #[.int .i64 kd] w fun e w' => e = .returned (bsV (usV kd)) ∧ w' = w := by
  rcases kd_cases kd with ⟨K, h1, h2, rfl⟩ | h
  · rw [usV_in h1 h2]
    rcases nat_16 h1 h2 with rfl | rfl | rfl | rfl | rfl | rfl | rfl | rfl | rfl | rfl | rfl | rfl | rfl | rfl | rfl | rfl
    all_goals
      clear h1 h2
      go_enter Tryz.func21, Tryz.ntmps21
      go_wp2
      go_ret
      exact ⟨rfl, rfl⟩
  · have hx := hidden (show usV kd = [] from if_neg h)
    have n1 := ne_of_out h (i := 1) (by decide) (by decide)
    have n2 := ne_of_out h (i := 2) (by decide) (by decide)
    have n3 := ne_of_out h (i := 3) (by decide) (by decide)
    have n4 := ne_of_out h (i := 4) (by decide) (by decide)
    have n5 := ne_of_out h (i := 5) (by decide) (by decide)
    have n6 := ne_of_out h (i := 6) (by decide) (by decide)
    have n7 := ne_of_out h (i := 7) (by decide) (by decide)
    have n8 := ne_of_out h (i := 8) (by decide) (by decide)
    have n9 := ne_of_out h (i := 9) (by decide) (by decide)
    have n10 := ne_of_out h (i := 10) (by decide) (by decide)
    have n11 := ne_of_out h (i := 11) (by decide) (by decide)
    have n12 := ne_of_out h (i := 12) (by decide) (by decide)
    have n13 := ne_of_out h (i := 13) (by decide) (by decide)
    have n14 := ne_of_out h (i := 14) (by decide) (by decide)
    have n15 := ne_of_out h (i := 15) (by decide) (by decide)
    have n16 := ne_of_out h (i := 16) (by decide) (by decide)
    clear h
    go_enter Tryz.func21, Tryz.ntmps21
    go_wp2
    go_ret
    exact ⟨by rw [hx.out]; rfl, rfl⟩
set_option maxRecDepth 100000 in
set_option maxHeartbeats 6400000 in
theorem refName_any (kd : Int) (w : World) : Calls Tryz.prog 10 #[.int .i64 kd] w fun e w' => e = .returned (bsV (nmV kd)) ∧ Below w.heap.size w w' := by
  by_cases h0 : kd < 0
  · have hx := hidden (show nmV kd = [] from if_neg (by omega))
    have hb := hidden (fun o => (Below.refl w.heap.size w).alloc (Nat.le_refl _) o)
    go_enter Tryz.func10, Tryz.ntmps10
    go_wp2
    go_ret
    exact ⟨by rw [hx.out]; rfl, hb.out _⟩
  · by_cases h1 : 17 ≤ kd
    · have hx := hidden (show nmV kd = [] from if_neg (by omega))
      have hb := hidden (fun o => (Below.refl w.heap.size w).alloc (Nat.le_refl _) o)
      go_enter Tryz.func10, Tryz.ntmps10
      go_wp2
      go_ret
      exact ⟨by rw [hx.out]; rfl, hb.out _⟩
    · obtain ⟨K, rfl⟩ : ∃ K : Nat, kd = (K : Int) := ⟨kd.toNat, by omega⟩
      have h2 : K = 0 ∨ K = 1 ∨ K = 2 ∨ K = 3 ∨ K = 4 ∨ K = 5 ∨ K = 6 ∨ K = 7 ∨ K = 8 ∨ K = 9 ∨ K = 10 ∨ K = 11 ∨ K = 12 ∨ K = 13 ∨ K = 14 ∨ K = 15 ∨ K = 16 := by omega
      clear h0 h1
      have hb := hidden (fun o => (Below.refl w.heap.size w).alloc (Nat.le_refl _) o)
      rcases h2 with rfl | rfl | rfl | rfl | rfl | rfl | rfl | rfl | rfl | rfl | rfl | rfl | rfl | rfl | rfl | rfl | rfl
      all_goals
        go_enter Tryz.func10, Tryz.ntmps10
        go_wp2
        go_ret
        exact ⟨rfl, hb.out _⟩
theorem refField_any (o : Opv) (i : Nat) (hi : i < 6) (w : World) : Calls Tryz.prog 22 #[opV o, .int .u8 ((letL.getD i 0).toNat : Int)] w fun e w' => e = .returned (.int .i64 (fo o i)) ∧ Below w.heap.size w w' := by
  have hb := hidden (fun o => (Below.refl w.heap.size w).alloc (Nat.le_refl _) o)
  have h6 : i = 0 ∨ i = 1 ∨ i = 2 ∨ i = 3 ∨ i = 4 ∨ i = 5 := by omega
  rcases h6 with rfl | rfl | rfl | rfl | rfl | rfl
  all_goals
    clear hi
    go_enter Tryz.func22, Tryz.ntmps22
    go_wp2
    go_ret
    exact ⟨rfl, hb.out _⟩
end Go.Proofs.YtongpgnnhpbcpaaGreatDoor
