/-
  The document's own operations (pledgeref26): has.
-/
import Derived.Test.YtongpgnnhpbcpaaGreatDoorOp1
import Derived.Test.YtongpgnnhpbcpaaGreatDoorRef
namespace Go.Proofs.YtongpgnnhpbcpaaGreatDoor
open Go.RowKit
set_option linter.unusedVariables false

/-- has -/
theorem refHas_any (U : List UInt8) (c : UInt8) (w : World) (hU : U.length ≤ 1000) : Calls Tryz.prog 23 #[bsV U, .int .u8 (c.toNat : Int)] w fun e w' => e = .returned (.bool (decide (c ∈ U))) ∧ w' = w := by
  have hUs : (⟨U.toArray⟩ : ByteArray).size = U.length := by simp [ByteArray.size]
  go_enter Tryz.func23, Tryz.ntmps23
  go_wp2_with fail
  
  go_loop [4, 5] (fun _ i => ∃ k : Nat, k ≤ U.length ∧ i = .int .i64 (k : Int) ∧ ∀ x ∈ U.take k, x ≠ c) (fun _ i => U.length - (intOf i).toNat)
  case atStart => exact ⟨0, Nat.zero_le _, rfl, by simp⟩
  case round =>
    obtain ⟨k, hk, rfl, hno⟩ := hrel
    by_cases hlt : k < U.length
    · have hkI : (k : Int) < (U.length : Int) := by omega
      by_cases hc : U[k] = c
      · have hres := hidden (show decide (c ∈ U) = true from decide_eq_true (by rw [← hc]; exact List.getElem_mem hlt))
        have h1 : ((U[k].toNat : Int) == (c.toNat : Int)) = true := by rw [hc]; simp
        have h2 : ((((⟨U.toArray⟩ : ByteArray)[k]'(by rw [hUs]; exact hlt)).toNat : Int) == (c.toNat : Int)) = true := h1
        clear hno hc
        go_wp2
        go_ret
        exact ⟨by rw [hres.out]; rfl, rfl⟩
      · have h1 : ((U[k].toNat : Int) == (c.toNat : Int)) = false := by
          rw [beq_eq_false_iff_ne]
          exact fun e => hc (UInt8.toNat_inj.1 (by omega))
        have h2 : ((((⟨U.toArray⟩ : ByteArray)[k]'(by rw [hUs]; exact hlt)).toNat : Int) == (c.toNat : Int)) = false := h1
        have hno2 := hidden (show ∀ x ∈ U.take (k + 1), x ≠ c from fun x hx => by
          rw [List.take_succ_eq_append_getElem hlt] at hx
          rcases List.mem_append.1 hx with hx | hx
          · exact hno x hx
          · rw [List.mem_singleton.1 hx]; exact hc)
        clear hno hc
        go_wp2
        refine ⟨⟨k + 1, hlt, by go_num, hno2.out⟩, by simp [intOf]; omega⟩
    · obtain rfl : k = U.length := by omega
      have hres := hidden (show decide (c ∈ U) = false from decide_eq_false (fun h => hno c (by rw [List.take_length]; exact h) rfl))
      clear hno hlt hk
      go_wp2
      go_ret
      exact ⟨by rw [hres.out]; rfl, rfl⟩
theorem ref_in_fin : ∀ (k : Fin 17) (i : Fin 6), (useS k.val).contains (letL.getD i.val 0) = usB k.val i.val := by decide +kernel
theorem ref_in {K P : Nat} (hK : K ≤ 16) (hP : P < 6) : decide (letL.getD P 0 ∈ useS K) = usB K P := (List.contains_eq_mem (letL.getD P 0) (useS K)).symm.trans <| ref_in_fin ⟨K, by omega⟩ ⟨P, hP⟩
/-- the rounds of Valid. -/
def RvRel (o : Opv) (w0 : World) (i : Value) (w : World) : Prop := ∃ k : Nat, k ≤ 6 ∧ i = .int .i64 (k : Int) ∧ (∀ j, j < k → fdOk o j = true) ∧ Below w0.heap.size w0 w
theorem rv_next {o : Opv} {k : Nat} (h : ∀ j, j < k → fdOk o j = true) (hk : fdOk o k = true) : ∀ j, j < k + 1 → fdOk o j = true := fun j hj => by
  by_cases e : j = k
  · subst e; exact hk
  · exact h j (by omega)
end Go.Proofs.YtongpgnnhpbcpaaGreatDoor
