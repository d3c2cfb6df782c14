/-
  The document's Counts.
-/
import Derived.Test.YtphpmngaljldgaaDoorValue1
import Derived.Test.YtphpmngaljldgaaDoorRefMoney
import Derived.RegionTactic
namespace Go.Proofs.YtphpmngaljldgaaDoor
open Go.RowKit
set_option linter.unusedVariables false

abbrev tmTyR : TypeId := 36
abbrev stTyR : TypeId := 33
set_option maxHeartbeats 1600000 in
theorem refCounts_any (a : As) (y : Tm) (w : World) :
    Calls Tryd.prog 13 #[asA a, tmA y] w fun e w' => e = .returned (.bool (cnB a y)) ∧ Below w.heap.size w w' := by
  have hn := hidden (two15_new w tmTyR a y)
  have hl := hidden (fun w => refLive_any a y.t w)
  have hw := ownB_ways a y.o
  have hq := hidden (show cnB a y = (y.n && lfB a.e y.t && !ownB a y.o) from rfl)
  generalize cnB a y = r at *
  generalize lfB a.e y.t = lf at *
  generalize ownB a y.o = ow at *
  obtain ⟨i, s, c, m, e⟩ := a
  obtain ⟨t, o, n, p, x, z⟩ := y
  rcases hw with ⟨t1, rfl⟩ | ⟨t1, t2, rfl⟩ | ⟨t1, t2, rfl⟩
  all_goals
    cases n
    · go_enter Tryd.func13, Tryd.ntmps13
      go_wp2_with fail
      go_ret
      exact ⟨ret_bool hq.out.symm, hn.out.2⟩
    · cases lf
      all_goals
        go_enter Tryd.func13, Tryd.ntmps13
        go_wp2_with fail
        refine (hl.out _).mono ?_
        rintro r' w1 ⟨rfl, hb⟩
        have hb1 := hidden (hn.out.2.trans (hb.mono hn.out.2.size))
        clear hb hl hn
        go_wp2_with fail
        go_ret
        exact ⟨ret_bool hq.out.symm, hb1.out⟩
end Go.Proofs.YtphpmngaljldgaaDoor
