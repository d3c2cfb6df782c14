/-
  The document's own operations (pledgeref26): Bytes, Number.
-/
import Derived.Test.YtongpgnnhpbcpaaGreatDoorOpRef1
import Derived.Test.YtongpgnnhpbcpaaGreatDoorOpRef1b
import Derived.Test.YtongpgnnhpbcpaaGreatDoorOp3
import Derived.Test.YtongpgnnhpbcpaaGreatDoorOpNum
import Derived.Test.YtongpgnnhpbcpaaGreatDoorWirePutsWalk
import Derived.Deep.CutBlock
namespace Go.Proofs.YtongpgnnhpbcpaaGreatDoor
open Go.RowKit
set_option linter.unusedVariables false

/-! Bytes -/
def RbRel (o : Opv) (w0 : World) (v i : Value) (w : World) : Prop := ∃ k : Nat, k ≤ 6 ∧ i = .int .i64 (k : Int) ∧ Reads .u8 w v (encs ((nums o).take (2 + k))) ∧ Below w0.heap.size w0 w
theorem nums_take {o : Opv} {k : Nat} (hk : k < 6) : (nums o).take (2 + (k + 1)) = (nums o).take (2 + k) ++ [fo o k] := by
  have h6 : k = 0 ∨ k = 1 ∨ k = 2 ∨ k = 3 ∨ k = 4 ∨ k = 5 := by omega
  rcases h6 with rfl | rfl | rfl | rfl | rfl | rfl <;> rfl
theorem encs_take25 (o : Opv) (hb : OpBig o) (k : Nat) : (encs ((nums o).take k)).length ≤ 1000000 := by
  have h1 : encs (nums o) = encs ((nums o).take k) ++ encs ((nums o).drop k) := by rw [← encs_append, List.take_append_drop]
  have h2 : (encs (nums o)).length ≤ 80 := encs_len (nums o) hb
  have h3 := congrArg List.length h1
  rw [List.length_append] at h3
  omega
set_option maxRecDepth 100000 in
set_option maxHeartbeats 3200000 in
theorem refBytes25 (o : Opv) (w : World) (hB : OpBig o) : Calls Tryz.prog 12 #[opV o] w fun e w' => ∃ v, e = .returned v ∧ Reads .u8 w' v (encs (nums o)) ∧ Below w.heap.size w w' := by
  have hw1 := hidden (show Below w.heap.size w (w.alloc (opO o)) from (Below.refl _ _).alloc (Nat.le_refl _) _)
  have hro := hidden (show OpAt (w.alloc (opO o)) w.heap.size o from ⟨heap_alloc_new w _⟩)
  have hsz := hidden (show (w.alloc (opO o)).heap.size = w.heap.size + 1 by simp)
  have hI := hidden hB.ids
  have hFb := hidden hB.fld
  have hL := hidden (encs_take25 o hB)
  have hFd := hidden (fun k hk W => refField_any o k hk W)
  have htk := hidden (fun k (hk : k < 6) => @nums_take o k hk)
  have hst := hidden (show [] ++ enc (zz o.id).toNat = encs ((nums o).take 1) from by simp [nums, encs])
  have hst2 := hidden (show encs ((nums o).take 1) ++ enc (zz o.kd).toNat = encs ((nums o).take 2) from by simp [nums, encs])
  have hall := hidden (show (nums o).take 8 = nums o from rfl)
  obtain ⟨q0, q1, q2, q3, q4, q5, q6, q7⟩ := hro.out.cells
  clear hB
  go_enter Tryz.func12, Tryz.ntmps12
  go_wp2_with fail
  refine (refPut_any _ [] o.id _ (Reads.nil _ _) (by decide) hI.out.1.1 hI.out.1.2).mono ?_
  rintro e w2 ⟨v2, rfl, hown, hb2⟩
  rw [hst.out] at hown
  have hr2 := reads_of_own (k := .u8) hown
  have hw2 := hb2
  have hro2 := hidden (hro.out.below hb2)
  clear q0 q1 q2 q3 q4 q5 q6 q7 hown hb2
  obtain ⟨q0, q1, q2, q3, q4, q5, q6, q7⟩ := hro2.out.cells
  replace hr2 := hidden hr2
  replace hw2 := hidden hw2
  go_wp2_with fail
  refine (refPut_any _ (encs ((nums o).take 1)) o.kd _ hr2.out (hL.out 1) hI.out.2.1 hI.out.2.2).mono ?_
  rintro e w3 ⟨v3, rfl, hown, hb3⟩
  rw [hst2.out] at hown
  have hr3 := hidden (reads_of_own (k := .u8) hown)
  have hw3 := hidden (hw2.out.trans (hb3.mono hw2.out.size))
  clear q0 q1 q2 q3 q4 q5 q6 q7 hown hb3 hro2 hr2 hw2
  generalize w.alloc (opO o) = w1 at *
  go_wp2_with fail
  have hst3 := hidden (show RbRel o w1 v3 (.int .i64 0) w3 from ⟨0, by decide, rfl, hr3.out, hw3.out⟩)
  clear hr3 hw3 hst hst2
  generalize hfo : fo o = f at *
  replace hfo := hidden hfo
  go_loopw [3, 5] (fun v i wr => RbRel o w1 v i wr) (fun _ i _ => 6 - (intOf i).toNat)
  case atStart => exact hst3.out
  case round =>
    clear hst3
    obtain ⟨k, hk, rfl, hr, hb⟩ := hrel
    have hr2 := hidden (hro.out.below hb)
    replace hb := hidden hb
    replace hr := hidden hr
    obtain ⟨q0, q1, q2, q3, q4, q5, q6, q7⟩ := hr2.out.cells
    have h6 : k = 0 ∨ k = 1 ∨ k = 2 ∨ k = 3 ∨ k = 4 ∨ k = 5 ∨ k = 6 := by omega
    rcases h6 with rfl | rfl | rfl | rfl | rfl | rfl | rfl
    · have htk2 := hidden (htk.out 0 (by decide))
      have hbd := hidden (hFb.out 0)
      go_upto_region 7 with (fail)
      go_region_with (first
        | (go_at_call 22; refine (hFd.out 0 (by decide) _).mono ?_; rintro e' w4 ⟨rfl, hb4⟩; have hbq := hidden (hb.out.drew.trans (hb4.mono hb.out.drew.size)); have hrq := hidden ((show Reads .u8 wr.drew _ _ from hr.out).below hb4 (Nat.le_refl _)))
        | (go_at_call 29; refine (refPut_any _ _ _ _ hrq.out (hL.out _) hbd.out.1 hbd.out.2).mono ?_; rintro e' w5 ⟨v5, rfl, hown, hb5⟩; have hr5 := hidden (reads_of_own (k := .u8) hown); have hbw := hidden (hbq.out.trans (hb5.mono hbq.out.size)); clear hown hb5))
      all_goals
        go_wp2
        go_roundw
        case rel => exact ⟨0 + 1, by decide, by go_num, by rw [htk2.out, encs_snoc]; exact hr5.out, hbw.out⟩
        case measure => simp [intOf]
    · have htk2 := hidden (htk.out 1 (by decide))
      have hbd := hidden (hFb.out 1)
      go_upto_region 7 with (fail)
      go_region_with (first
        | (go_at_call 22; refine (hFd.out 1 (by decide) _).mono ?_; rintro e' w4 ⟨rfl, hb4⟩; have hbq := hidden (hb.out.drew.trans (hb4.mono hb.out.drew.size)); have hrq := hidden ((show Reads .u8 wr.drew _ _ from hr.out).below hb4 (Nat.le_refl _)))
        | (go_at_call 29; refine (refPut_any _ _ _ _ hrq.out (hL.out _) hbd.out.1 hbd.out.2).mono ?_; rintro e' w5 ⟨v5, rfl, hown, hb5⟩; have hr5 := hidden (reads_of_own (k := .u8) hown); have hbw := hidden (hbq.out.trans (hb5.mono hbq.out.size)); clear hown hb5))
      all_goals
        go_wp2
        go_roundw
        case rel => exact ⟨1 + 1, by decide, by go_num, by rw [htk2.out, encs_snoc]; exact hr5.out, hbw.out⟩
        case measure => simp [intOf]
    · have htk2 := hidden (htk.out 2 (by decide))
      have hbd := hidden (hFb.out 2)
      go_upto_region 7 with (fail)
      go_region_with (first
        | (go_at_call 22; refine (hFd.out 2 (by decide) _).mono ?_; rintro e' w4 ⟨rfl, hb4⟩; have hbq := hidden (hb.out.drew.trans (hb4.mono hb.out.drew.size)); have hrq := hidden ((show Reads .u8 wr.drew _ _ from hr.out).below hb4 (Nat.le_refl _)))
        | (go_at_call 29; refine (refPut_any _ _ _ _ hrq.out (hL.out _) hbd.out.1 hbd.out.2).mono ?_; rintro e' w5 ⟨v5, rfl, hown, hb5⟩; have hr5 := hidden (reads_of_own (k := .u8) hown); have hbw := hidden (hbq.out.trans (hb5.mono hbq.out.size)); clear hown hb5))
      all_goals
        go_wp2
        go_roundw
        case rel => exact ⟨2 + 1, by decide, by go_num, by rw [htk2.out, encs_snoc]; exact hr5.out, hbw.out⟩
        case measure => simp [intOf]
    · have htk2 := hidden (htk.out 3 (by decide))
      have hbd := hidden (hFb.out 3)
      go_upto_region 7 with (fail)
      go_region_with (first
        | (go_at_call 22; refine (hFd.out 3 (by decide) _).mono ?_; rintro e' w4 ⟨rfl, hb4⟩; have hbq := hidden (hb.out.drew.trans (hb4.mono hb.out.drew.size)); have hrq := hidden ((show Reads .u8 wr.drew _ _ from hr.out).below hb4 (Nat.le_refl _)))
        | (go_at_call 29; refine (refPut_any _ _ _ _ hrq.out (hL.out _) hbd.out.1 hbd.out.2).mono ?_; rintro e' w5 ⟨v5, rfl, hown, hb5⟩; have hr5 := hidden (reads_of_own (k := .u8) hown); have hbw := hidden (hbq.out.trans (hb5.mono hbq.out.size)); clear hown hb5))
      all_goals
        go_wp2
        go_roundw
        case rel => exact ⟨3 + 1, by decide, by go_num, by rw [htk2.out, encs_snoc]; exact hr5.out, hbw.out⟩
        case measure => simp [intOf]
    · have htk2 := hidden (htk.out 4 (by decide))
      have hbd := hidden (hFb.out 4)
      go_upto_region 7 with (fail)
      go_region_with (first
        | (go_at_call 22; refine (hFd.out 4 (by decide) _).mono ?_; rintro e' w4 ⟨rfl, hb4⟩; have hbq := hidden (hb.out.drew.trans (hb4.mono hb.out.drew.size)); have hrq := hidden ((show Reads .u8 wr.drew _ _ from hr.out).below hb4 (Nat.le_refl _)))
        | (go_at_call 29; refine (refPut_any _ _ _ _ hrq.out (hL.out _) hbd.out.1 hbd.out.2).mono ?_; rintro e' w5 ⟨v5, rfl, hown, hb5⟩; have hr5 := hidden (reads_of_own (k := .u8) hown); have hbw := hidden (hbq.out.trans (hb5.mono hbq.out.size)); clear hown hb5))
      all_goals
        go_wp2
        go_roundw
        case rel => exact ⟨4 + 1, by decide, by go_num, by rw [htk2.out, encs_snoc]; exact hr5.out, hbw.out⟩
        case measure => simp [intOf]
    · have htk2 := hidden (htk.out 5 (by decide))
      have hbd := hidden (hFb.out 5)
      go_upto_region 7 with (fail)
      go_region_with (first
        | (go_at_call 22; refine (hFd.out 5 (by decide) _).mono ?_; rintro e' w4 ⟨rfl, hb4⟩; have hbq := hidden (hb.out.drew.trans (hb4.mono hb.out.drew.size)); have hrq := hidden ((show Reads .u8 wr.drew _ _ from hr.out).below hb4 (Nat.le_refl _)))
        | (go_at_call 29; refine (refPut_any _ _ _ _ hrq.out (hL.out _) hbd.out.1 hbd.out.2).mono ?_; rintro e' w5 ⟨v5, rfl, hown, hb5⟩; have hr5 := hidden (reads_of_own (k := .u8) hown); have hbw := hidden (hbq.out.trans (hb5.mono hbq.out.size)); clear hown hb5))
      all_goals
        go_wp2
        go_roundw
        case rel => exact ⟨5 + 1, by decide, by go_num, by rw [htk2.out, encs_snoc]; exact hr5.out, hbw.out⟩
        case measure => simp [intOf]
    · go_wp2
      go_ret
      exact ⟨_, rfl, by have h := hr.out; rw [hall.out] at h; exact h, hw1.out.trans (hb.out.mono (by rw [hsz.out]; omega))⟩

/-! Number -/
theorem decFrom_app (t : List UInt8) : ∀ (l : List UInt8) (acc : Nat), Lib.decFrom acc (l ++ t) = (Lib.decFrom acc l).bind fun m => Lib.decFrom m t
  | [], acc => rfl
  | b :: l, acc => by
    simp only [List.cons_append, Lib.decFrom]
    cases Lib.digitVal b with
    | none => rfl
    | some d => exact decFrom_app t l _
theorem nu_short {l : List UInt8} (h : l.length < 1) : nuO l = none := by
  obtain rfl : l = [] := List.length_eq_zero_iff.1 (by omega)
  rfl
theorem nu_zero {l : List UInt8} (h0 : l.head? = some 48) (h1 : 1 < l.length) : nuO l = none := by
  unfold nuO
  rw [if_neg (fun h => h.2 ⟨h0, h1⟩)]
theorem nu_dec {l : List UInt8} (h0 : 1 ≤ l.length) (h1 : l.length ≤ 18) (h2 : ¬ (l.head? = some 48 ∧ 1 < l.length)) : nuO l = (Lib.decFrom 0 l).map fun (m : Nat) => (m : Int) := by
  unfold nuO
  rw [if_pos ⟨h1, h2⟩]
  unfold Lib.decNat
  rw [if_neg (by cases l with | nil => simp at h0 | cons => simp)]
end Go.Proofs.YtongpgnnhpbcpaaGreatDoor
