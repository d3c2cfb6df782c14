import Derived.Test.YtongpgnnhpbcpaaGreatDoorRest
import Derived.Test.YtongpgnnhpbcpaaGreatDoorSee
import Derived.Test.YtongpgnnhpbcpaaGreatDoorBase
namespace Go.Proofs.YtongpgnnhpbcpaaGreatDoor
open Go.RowKit

def CopyRel (B : Nat) (xs : List Int) (w : World) (v i : Value) (wr : World) : Prop :=
  ∃ k : Nat, i = .int .i64 (k : Int) ∧ k ≤ xs.length ∧ wr.ownsRow B 5 1 v k (cb (xs.take k)) ∧ Below B w wr

set_option maxHeartbeats 800000 in
/-- Bytes: a copy, in new memory. -/
theorem bytes_any (v : Value) (xs : List Int) (w : World) (h : Reads .u8 w v xs) (hx : xs.length ≤ 1000000000) :
    Calls Tryz.prog 54 #[v] w fun e w' => ∃ v', e = .returned v' ∧ w'.ownsRow w.heap.size 5 1 v' xs.length (cb xs) ∧ Below w.heap.size w w' := by
  have hr := hidden h
  obtain ⟨a, n, c, rfl, en, hnc, hcm, hn, _⟩ := h
  subst en
  clear hn
  obtain ⟨i0, hi, hz0, hz1, hz2⟩ := info_parts infoB
  go_enter Tryz.func54, Tryz.ntmps54
  go_wp2_with (at_make; refine wpList_make_own _ rfl _ _ 24 rfl w.heap.size 5 i0 (.int .u8 0) 1 Tryz.underlying24 hi hz0 hz1 .i64 .i64 _ xs.length rfl rfl rfl ?c1 ?c2 ?c3 ?_)
  case c1 => rw [hz2]; omega
  case c2 => unfold maxLen; omega
  case c3 => exact Nat.le_refl _
  intro w1 hown1 hg1
  have hb1 : Below w.heap.size w w1 := (Below.refl _ _).grown hg1 (Nat.le_refl _) (fun _ h => by cases h)
  clear hg1
  go_wp2_with fail
  go_loopw [3, 4] (fun v i wr => CopyRel w.heap.size xs w v i wr) (fun _ i _ => xs.length - (intOf i).toNat)
  case atStart => exact ⟨0, rfl, Nat.zero_le _, by simpa [cb] using hown1, hb1⟩
  case round =>
    obtain ⟨k, rfl, hk, hownk, hbk⟩ := hrel
    clear hown1 hb1
    have hB := hbk.size
    by_cases hlt : k < xs.length
    · obtain ⟨bl, ol, rfl, hc⟩ := (hr.out.below hbk (Nat.le_refl _)).cell k hlt
      have htk := hidden (take_snoc_getD xs k hlt)
      generalize xs.getD k 0 = x at hc htk
      go_wp2_with (at_builtin; refine wpList_app1 rfl _ _ 24 rfl 5 Tryz.underlying24 infoB rfl (by decide) w.heap.size _ _ _ rfl hownk _ rfl rfl ?_ hB ?_)
      case _ => omega
      intro v2 w2 hown2 hb2
      go_wp2
      go_roundw
      case rel =>
        refine ⟨k + 1, by go_num, hlt, ?_, hbk.trans hb2⟩
        rw [htk.out, cb_snoc]
        exact hown2
      case measure => simp [intOf]; omega
    · go_wp2
      go_ret
      have e : xs.take k = xs := List.take_of_length_le (by omega)
      obtain rfl : k = xs.length := by omega
      rw [e] at hownk
      exact ⟨_, rfl, hownk, hbk⟩

end Go.Proofs.YtongpgnnhpbcpaaGreatDoor
