/-
  rest; cheapest.
-/
import Derived.Test.YtodhoblacalbiaaDoorBoundMath2
import Derived.Test.YtodhoblacalbiaaDoorLots2
namespace Go.Proofs.YtodhoblacalbiaaDoor
open Go.RowKit
set_option linter.unusedVariables false

def RestAt (L : List Lt) (k : Nat) (w : World) (e : Ending) (w' : World) : Prop := ∃ v, e = .returned (.tuple #[v, .bool true]) ∧ Row ltV 4 w' v (L.drop k) ∧ Below w.heap.size w w'
set_option maxRecDepth 100000 in
set_option maxHeartbeats 3200000 in
/-- of a problem that may be, from a place that there is. -/
theorem rest_yes (A : Nat → Addr) (lv cv : Value) (L : List Lt) (C : List Int) (n : Int) (k : Nat) (w : World) (h : PbR w lv cv L C) (hE : ErrsOn [2, 4] w A) (hok : OkP L C n) (hk : k ≤ L.length) :
    Calls Tryd.prog 16 #[pbA lv cv n, .int .i64 (k : Int)] w (RestAt L k w) := by
  have hb0 := below_pb w pbTy lv cv n
  have hV := ltValid_any A lv cv L C n _ (h.below hb0 (Nat.le_refl _)) (hE.below hb0 (Nat.le_refl _))
  rw [pbC_ok hok, errOf_fine] at hV
  replace hV := hidden hV
  have hpb := pbAt_new w pbTy lv cv n
  have hp := hidden (fun W (hW : Below (w.alloc (pbO pbTy lv cv n)).heap.size (w.alloc (pbO pbTy lv cv n)) W) => (hpb.below hW (Nat.le_refl _)).cells)
  obtain ⟨la, lc, rfl⟩ := row_slice h.lots
  have hb := hidden hb0
  have hlen := h.len.1
  obtain ⟨_, hcap, hmax, _⟩ := row_cap h.lots
  obtain ⟨b, o, rfl, _⟩ := rowLt_at h.lots 0 (by have := hok.1.1.1; omega)
  have hkI : (k : Int) ≤ (L.length : Int) := by omega
  have hkc : (k : Int) ≤ (lc : Int) := by omega
  have hcI : (lc : Int) ≤ 9223372036854775807 := by unfold maxLen at hmax; omega
  have hways : (lc = k ∧ ∀ W, Below w.heap.size w W → Row ltV 4 W (.slice (some ⟨b, o, none⟩) (L.length - k) 0) (L.drop k)) ∨ (¬ lc = k ∧ ∀ W, Below w.heap.size w W → Row ltV 4 W (.slice (some ⟨b, o + k * 4, none⟩) (L.length - k) (lc - k)) (L.drop k)) := by
    by_cases hc1 : lc = k
    · refine .inl ⟨hc1, fun W hW => ?_⟩
      have := (row_from ltV_len (h.lots.below ltV_len hW (Nat.le_refl _)) hk).1 hc1
      rwa [show lc - k = 0 by omega] at this
    · refine .inr ⟨hc1, fun W hW => ?_⟩
      have := (row_from ltV_len (h.lots.below ltV_len hW (Nat.le_refl _)) hk).2 _ rfl
      rwa [Addr.add_lit] at this
  clear h hE hok hb0 hpb
  unfold RestAt
  rcases hways with ⟨hc1, hr⟩ | ⟨hc1, hr⟩
  · obtain rfl : lc = L.length := by omega
    obtain rfl : k = L.length := by omega
    replace hr := hidden hr
    go_enter Tryd.func16, Tryd.ntmps16
    go_wp2_with (go_at_call 6; (with_reducible refine hV.out.mono ?_); rintro e w1 ⟨rfl, hb1⟩; have hp2 := hp.out _ hb1; obtain ⟨c0, c1, c2⟩ := hp2; have hb3 := hidden (hb.out.trans (hb1.mono hb.out.size)))
    go_ret2
    exact ⟨_, rfl, by simpa using hr.out _ hb3.out, hb3.out⟩
  · replace hr := hidden hr
    go_enter Tryd.func16, Tryd.ntmps16
    go_wp2_with (go_at_call 6; (with_reducible refine hV.out.mono ?_); rintro e w1 ⟨rfl, hb1⟩; have hp2 := hp.out _ hb1; obtain ⟨c0, c1, c2⟩ := hp2; have hb3 := hidden (hb.out.trans (hb1.mono hb.out.size)))
    go_ret2
    exact ⟨_, rfl, by simpa using hr.out _ hb3.out, hb3.out⟩
end Go.Proofs.YtodhoblacalbiaaDoor
