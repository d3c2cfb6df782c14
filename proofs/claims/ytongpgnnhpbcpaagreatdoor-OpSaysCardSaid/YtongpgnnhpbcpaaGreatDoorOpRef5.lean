/-
  The document's own operations (pledgeref26): Number.
-/
import Derived.Test.YtongpgnnhpbcpaaGreatDoorOpRef4
namespace Go.Proofs.YtongpgnnhpbcpaaGreatDoor
open Go.RowKit
set_option linter.unusedVariables false

def nuT (l : List UInt8) : Value := .tuple #[.int .i64 ((nuO l).getD 0), .bool (nuO l).isSome]
theorem nuT_none {l : List UInt8} (h : nuO l = none) : nuT l = .tuple #[.int .i64 0, .bool false] := by unfold nuT; rw [h]; rfl
theorem nuT_some {l : List UInt8} {m : Nat} (h : nuO l = some (m : Int)) : nuT l = .tuple #[.int .i64 (m : Int), .bool true] := by unfold nuT; rw [h]; rfl
/-- its rounds. -/
def RnRel (l : List UInt8) (n i : Value) : Prop := ∃ k m : Nat, k ≤ l.length ∧ i = .int .i64 (k : Int) ∧ n = .int .i64 (m : Int) ∧ m < 10 ^ k ∧ Lib.decFrom 0 (l.take k) = some m
theorem rn_bad {l : List UInt8} {k m : Nat} (h0 : 1 ≤ l.length) (h1 : l.length ≤ 18) (h2 : ¬ (l.head? = some 48 ∧ 1 < l.length)) (hk : k < l.length) (hm : Lib.decFrom 0 (l.take k) = some m) (hd : Lib.digitVal l[k] = none) : nuO l = none := by
  rw [nu_dec h0 h1 h2]
  have e : l = l.take k ++ l[k] :: l.drop (k + 1) := by rw [← List.drop_eq_getElem_cons hk, List.take_append_drop]
  have : Lib.decFrom 0 l = none := by
    rw [e, decFrom_app, hm]
    simp only [Option.bind_some, Lib.decFrom, hd]
  rw [this]; rfl
theorem rn_next {l : List UInt8} {k m d : Nat} (hk : k < l.length) (hm : Lib.decFrom 0 (l.take k) = some m) (hd : Lib.digitVal l[k] = some d) : Lib.decFrom 0 (l.take (k + 1)) = some (m * 10 + d) := by
  rw [List.take_succ_eq_append_getElem hk, decFrom_snoc, hm, hd]; rfl
theorem rn_end {l : List UInt8} {m : Nat} (h0 : 1 ≤ l.length) (h1 : l.length ≤ 18) (h2 : ¬ (l.head? = some 48 ∧ 1 < l.length)) (hm : Lib.decFrom 0 (l.take l.length) = some m) : nuO l = some (m : Int) := by
  rw [List.take_length] at hm
  rw [nu_dec h0 h1 h2, hm]; rfl
theorem pow10_le {k : Nat} (h : k ≤ 17) {m : Nat} (hm : m < 10 ^ k) : (m : Int) ≤ 99999999999999999 := by
  have h1 : 10 ^ k ≤ 10 ^ 17 := Nat.pow_le_pow_right (by decide) h
  have h2 : (10 : Nat) ^ 17 = 100000000000000000 := by decide
  omega
set_option maxHeartbeats 3200000 in
theorem refNumber_any (l : List UInt8) (w : World) : Calls Tryz.prog 48 #[bsV l] w fun e w' => e = .returned (nuT l) ∧ w' = w := by
  have hUs : (⟨l.toArray⟩ : ByteArray).size = l.length := by simp [ByteArray.size]
  by_cases h0 : l.length < 1
  · have hx := hidden (nuT_none (nu_short h0))
    have hI : (l.length : Int) < 1 := by omega
    clear h0
    go_enter Tryz.func48, Tryz.ntmps48
    go_wp2
    go_ret2
    exact ⟨by rw [hx.out]; rfl, rfl⟩
  · by_cases h1 : 18 < l.length
    · have hx := hidden (nuT_none (decNat_long (l := l) (by omega)))
      have hI : (18 : Int) < (l.length : Int) := by omega
      go_enter Tryz.func48, Tryz.ntmps48
      go_wp2
      go_ret2
      exact ⟨by rw [hx.out]; rfl, rfl⟩
    · have hl : 0 < l.length := by omega
      have hhd : l.head? = some l[0] := by rw [List.head?_eq_getElem?, List.getElem?_eq_getElem hl]
      by_cases h2 : l[0] = 48 ∧ 1 < l.length
      · have hx := hidden (nuT_none (nu_zero (by rw [hhd, h2.1]) h2.2))
        have h3 : ((l[0].toNat : Int) == 48) = true := by rw [h2.1]; rfl
        have h4 : ((((⟨l.toArray⟩ : ByteArray)[0]'(by rw [hUs]; exact hl)).toNat : Int) == 48) = true := h3
        have hI : (1 : Int) < (l.length : Int) := by omega
        have hI2 : (l.length : Int) ≤ 18 := by omega
        clear hhd h2
        go_enter Tryz.func48, Tryz.ntmps48
        go_wp2
        go_ret2
        exact ⟨by rw [hx.out]; rfl, rfl⟩
      · have hn : ¬ (l.head? = some 48 ∧ 1 < l.length) := fun h => h2 ⟨by have := h.1; rw [hhd] at this; exact Option.some.inj this, h.2⟩
        have hI2 : (l.length : Int) ≤ 18 := by omega
        have hI1 : (1 : Int) ≤ (l.length : Int) := by omega
        have hbad := hidden (fun k m hk hm hd => @rn_bad l k m (by omega) (by omega) hn hk hm hd)
        have hend := hidden (fun m hm => @rn_end l m (by omega) (by omega) hn hm)
        have hcase : (((l[0].toNat : Int) == 48) = false) ∨ (((l[0].toNat : Int) == 48) = true ∧ ¬ (1 : Int) < (l.length : Int)) := by
          by_cases h : l[0] = 48
          · exact .inr ⟨by rw [h]; rfl, fun h' => h2 ⟨h, by omega⟩⟩
          · exact .inl (by rw [beq_eq_false_iff_ne]; exact fun e => h (UInt8.toNat_inj.1 (by rw [show (48 : UInt8).toNat = 48 from rfl]; omega)))
        replace hcase := hidden hcase
        replace hl := hidden hl
        clear hn h2 hhd h0 h1
        have hl0 := hl.out
        rcases hcase.out with hc0 | ⟨hc0, hc1⟩
        all_goals
          have hc2 : ((((⟨l.toArray⟩ : ByteArray)[0]'(by rw [hUs]; exact hl0)).toNat : Int) == 48) = _ := hc0
          clear hcase
          go_enter Tryz.func48, Tryz.ntmps48
          go_wp2_with fail
          clear hc0 hc2 hl0
          go_loop [2, 3, 4, 5] (fun _ _ n i => RnRel l n i) (fun _ _ _ i => l.length - (intOf i).toNat)
          case atStart => exact ⟨0, 0, Nat.zero_le _, rfl, rfl, by decide, rfl⟩
          case round =>
            obtain ⟨k, m, hk, rfl, rfl, hm, hd⟩ := hrel
            by_cases hlt : k < l.length
            · have hkI : (k : Int) < (l.length : Int) := by omega
              have hmI := pow10_le (by omega) hm
              obtain ⟨y, hy⟩ : ∃ y : Nat, ((⟨l.toArray⟩ : ByteArray)[k]'(by rw [hUs]; exact hlt)).toNat = y := ⟨_, rfl⟩
              have hy2 := hidden (show l[k].toNat = y from hy)
              replace hm := hidden hm
              replace hd := hidden hd
              by_cases hy0 : y < 48
              · have hq := hidden (nuT_none (hbad.out k m hlt hd.out (by unfold Lib.digitVal; rw [hy2.out, if_neg (by omega)])))
                have hyI : (y : Int) < 48 := by omega
                clear hy0
                go_wp2
                go_ret2
                exact ⟨by rw [hq.out]; rfl, rfl⟩
              · by_cases hy1 : 57 < y
                · have hq := hidden (nuT_none (hbad.out k m hlt hd.out (by unfold Lib.digitVal; rw [hy2.out, if_neg (by omega)])))
                  have hyI0 : (48 : Int) ≤ (y : Int) := by omega
                  have hyI : (57 : Int) < (y : Int) := by omega
                  clear hy0 hy1
                  go_wp2
                  go_ret2
                  exact ⟨by rw [hq.out]; rfl, rfl⟩
                · have hq := hidden (rn_next hlt hd.out (d := y - 48) (by unfold Lib.digitVal; rw [hy2.out, if_pos (by omega)]))
                  have hp := hidden (show m * 10 + (y - 48) < 10 ^ (k + 1) from by have := hm.out; rw [Nat.pow_succ]; omega)
                  have hyI0 : (48 : Int) ≤ (y : Int) := by omega
                  have hyI : (y : Int) ≤ 57 := by omega
                  have hcst := hidden (show ((m * 10 + (y - 48) : Nat) : Int) = 10 * (m : Int) + ((y : Int) - 48) by omega)
                  clear hy0 hy1
                  go_wp2
                  refine ⟨⟨k + 1, m * 10 + (y - 48), hlt, by go_num, by rw [hcst.out], hp.out, hq.out⟩, by simp [intOf]; omega⟩
            · obtain rfl : k = l.length := by omega
              have hq := hidden (nuT_some (hend.out m hd))
              go_wp2
              go_ret2
              exact ⟨by rw [hq.out]; rfl, rfl⟩
end Go.Proofs.YtongpgnnhpbcpaaGreatDoor
