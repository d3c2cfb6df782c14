/-
  From a row that lists the table of buckets to its cells.
-/
import Derived.Test.YthlepeeejmeahaaDoorDay
import Derived.Lib.LaidTab
import Derived.MakeChecks
namespace Go.Proofs.YthlepeeejmeahaaDoor
open Go.ChangeShapes Go.WideShapes Go.RowKit

theorem ends_of_laid {W : World} {name : String} {zs : List Int} (h : laidMetH Tryd.prog [(name, Lib.tabData .i64 zs)] W) (hn : name = "pledge/day.ends") (hz : zs = [30, 90, 365, 1095, 3650]) : EndsOn W := by
  subst hn; subst hz
  rw [MakeChecks.laidMetH_plain _ _ _ (by rfl)] at h
  have hg : Tryd.prog.globalNamed "pledge/day.ends" = some 1 := by kernel_rfl
  have ht : Lib.TabIs Tryd.prog W "pledge/day.ends" .i64 [30, 90, 365, 1095, 3650] := Lib.tabIs_of_head hg (by kernel_rfl) Tryd.underlying85 Tryd.underlying3 (by kernel_rfl) (by kernel_rfl) h
  exact ⟨ht.cell hg 0 (by decide), ht.cell hg 1 (by decide), ht.cell hg 2 (by decide), ht.cell hg 3 (by decide), ht.cell hg 4 (by decide)⟩
end Go.Proofs.YthlepeeejmeahaaDoor
