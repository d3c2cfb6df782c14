import Derived.Test.YtphpmngaljldgaaDoorValueLaw
import Derived.Test.YtphpmngaljldgaaDoorNumber
import Derived.Test.YtphpmngaljldgaaDoorLaidOn
import Derived.Deep.DeepCutAuto
namespace Go.Proofs.YtphpmngaljldgaaDoor
open Go.RowKit
set_option linter.unusedVariables false

set_option maxRecDepth 100000 in
set_option maxHeartbeats 8000000 in
theorem walk_valueCounts (s o e t : Int) (n : Bool) (A : Nat → Addr) (w : World) (s0 : -9223372036854775808 ≤ s) (s1 : s ≤ 9223372036854775807) (o0 : -9223372036854775808 ≤ o) (o1 : o ≤ 9223372036854775807) (e0 : -9223372036854775808 ≤ e) (e1 : e ≤ 9223372036854775807) (t0 : -9223372036854775808 ≤ t) (t1 : t ≤ 9223372036854775807) (hS : SentsOn [2, 3] w A) :
    Calls Tryd.prog 5 #[.int .i64 s, .int .i64 o, .int .i64 e, .int .i64 t, .bool n] w fun r w' => r = .returned (.bool true) ∧ Below w.heap.size w w' := by
  have hF := hidden (law15_first A w hS.on)
  have hNs := hidden (fun W => number_any s 4 W s0 s1 (by decide) (by decide))
  have hNo := hidden (fun W => number_any o 4 W o0 o1 (by decide) (by decide))
  have hNe := hidden (fun W => number_any e 9 W e0 e1 (by decide) (by decide))
  have hNt := hidden (fun W => number_any t 9 W t0 t1 (by decide) (by decide))
  have bs : 0 ≤ s % 4 ∧ s % 4 < 4 := by omega
  have bo : 0 ≤ o % 4 ∧ o % 4 < 4 := by omega
  have be : 0 ≤ e % 9 ∧ e % 9 < 9 := by omega
  have bt : 0 ≤ t % 9 ∧ t % 9 < 9 := by omega
  clear hS s0 s1 o0 o1 e0 e1 t0 t1
  generalize s % 4 = s at *
  generalize o % 4 = o at *
  generalize e % 9 = e at *
  generalize t % 9 = t at *
  have hC := hidden (fun W => counts_any ⟨1, s, 2, 1, e⟩ ⟨t, o, n, 0, 0, 0⟩ W (by unfold AsBig; simp only; omega) (by unfold TmBig; simp only; omega))
  have hc := hidden (show cnB ⟨1, s, 2, 1, e⟩ ⟨t, o, n, 0, 0, 0⟩ = (n && lfB e t && !ownB ⟨1, s, 2, 1, e⟩ o) from rfl)
  have hl : ((e != 0) = false ∧ lfB e t = true) ∨ ((e != 0) = true ∧ decide (e ≤ t) = true ∧ lfB e t = false) ∨ ((e != 0) = true ∧ decide (e ≤ t) = false ∧ lfB e t = true) := by
    unfold lfB
    simp only [decide_eq_true_iff, decide_eq_false_iff_not, bne_iff_ne, bne_eq_false_iff_eq]
    omega
  have ho : ((s != 0) = false ∧ ownB ⟨1, s, 2, 1, e⟩ o = false) ∨ ((s != 0) = true ∧ (s == o) = true ∧ ownB ⟨1, s, 2, 1, e⟩ o = true) ∨ ((s != 0) = true ∧ (s == o) = false ∧ ownB ⟨1, s, 2, 1, e⟩ o = false) := by
    unfold ownB
    simp only [decide_eq_true_iff, decide_eq_false_iff_not, bne_iff_ne, bne_eq_false_iff_eq, beq_iff_eq, beq_eq_false_iff_ne]
    omega
  generalize cnB ⟨1, s, 2, 1, e⟩ ⟨t, o, n, 0, 0, 0⟩ = cn at *
  generalize ownB ⟨1, s, 2, 1, e⟩ o = ow at *
  generalize lfB e t = lf at *
  clear bs bo be bt
  rcases hl with ⟨l1, rfl⟩ | ⟨l1, l2, rfl⟩ | ⟨l1, l2, rfl⟩
  all_goals
    rcases ho with ⟨k1, rfl⟩ | ⟨k1, k2, rfl⟩ | ⟨k1, k2, rfl⟩
    all_goals
      cases n
      all_goals
        obtain rfl := hc.out
        go_enter Tryd.func5, Tryd.ntmps5
        go_wp2_with fail
        refine hF.out.mono ?_
        rintro r w1 ⟨rfl, hb⟩
        replace hb := hidden hb
        go_wp2_with fail
        refine (hNs.out _).mono ?_
        rintro r w2 ⟨rfl, rfl⟩
        go_wp2_with fail
        refine (hNo.out _).mono ?_
        rintro r w2 ⟨rfl, rfl⟩
        go_wp2_with fail
        refine (hNe.out _).mono ?_
        rintro r w2 ⟨rfl, rfl⟩
        go_wp2_with fail
        refine (hNt.out _).mono ?_
        rintro r w2 ⟨rfl, rfl⟩
        go_wp2_with fail
        refine (hC.out _).mono ?_
        rintro r w2 ⟨rfl, hb2⟩
        replace hb := hidden (hb.out.trans (hb2.mono hb.out.size))
        clear hb2 hF hNs hNo hNe hNt hC hc
        go_wp2_with fail
        go_ret
        exact ⟨rfl, hb.out⟩
end Go.Proofs.YtphpmngaljldgaaDoor
