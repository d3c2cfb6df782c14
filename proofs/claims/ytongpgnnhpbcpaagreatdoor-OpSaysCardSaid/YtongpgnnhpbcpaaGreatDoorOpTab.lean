/-
  From a row that lists package op's table, the table of powers of ten and strconv's ErrSyntax to what lies in the variables.
-/
import Derived.Test.YtongpgnnhpbcpaaGreatDoorOp2
import Derived.Test.YtongpgnnhpbcpaaGreatDoorLaid
import Derived.Lib.LaidTab
import Derived.MakeChecks
import Derived.ChangeSame
namespace Go.Proofs.YtongpgnnhpbcpaaGreatDoor
open Go.ChangeShapes Go.WideShapes Go.RowKit
set_option linter.unusedVariables false

theorem pow_of_laid {W : World} {D : DataW Unit} (h : laidMetH Tryz.prog [("internal/strconv.uint64pow10", D)] W) (hD : D = Lib.tabData .u64 Lib.pow10Tab) : Lib.TabIs Tryz.prog W "internal/strconv.uint64pow10" .u64 Lib.pow10Tab := by
  subst hD
  rw [MakeChecks.laidMetH_plain _ _ _ (by rfl)] at h
  have hg : Tryz.prog.globalNamed "internal/strconv.uint64pow10" = some 8 := by kernel_rfl
  exact Lib.tabIs_of_head hg (by kernel_rfl) Tryz.underlying130 Tryz.underlying92 (by kernel_rfl) (by kernel_rfl) h

set_option maxRecDepth 100000 in
theorem syn_of_laid {W : World} {D : DataW Unit} (h : laidMetH Tryz.prog [("strconv.ErrSyntax", D)] W) (hD : ∃ text, D = errD text) : SynOn W := by
  obtain ⟨text, rfl⟩ := hD
  rw [MakeChecks.laidMetH_plain _ _ _ (by rfl)] at h
  obtain ⟨ps, ⟨g, t, cs, fuel, p, q, hg, ht, hv, hdat, _, rfl⟩, _, hrows⟩ := h
  obtain rfl := Option.some.inj ((show Tryz.prog.globalNamed "strconv.ErrSyntax" = some 24 by kernel_rfl).symm.trans hg)
  obtain rfl := Option.some.inj ((show (Tryz.prog.globals[24]?).map (·.type) = some 29 by kernel_rfl).symm.trans ht)
  obtain ⟨l0⟩ := cs
  have ok0 : ∀ u v, l0 = [.iface u v] → Value.okWide Tryz.prog W .any 0 u v := fun u v e => by
    subst e
    exact (hrows 24 0 (by simp [MemPlace.row])).2 u v (by simpa using World.var?_cell hg hv 0)
  obtain ⟨a0, s0, rfl, hc0, hs0, hz0, rfl⟩ := errorString_of_trod Tryz.underlying29 rowES Tryz.underlying149 Tryz.underlying151 rfl rfl Tryz.underlying9 cellsES cellsStr hdat ok0
  exact ⟨_, _, hv⟩

/-- a table of pairs of strings as a row lists it. -/
def pairsD {H : Type} (zs : List (List UInt8 × List UInt8)) : DataW H := .agg (zs.map fun z => .agg [.lit (.string z.1), .lit (.string z.2)])

theorem pairs_cells {H : Type} {enc : TypeId × Value → H} {P : Program} {w : World} {base : Nat} {sp : Nat → Bool} {held : Bool} {fuel : Nat} {t e s : TypeId} {n : Nat} {f0 f1 : Field} {cs : List Value} {zs : List (List UInt8 × List UInt8)} {p : List MemPlace}
    (ht : P.underlying t = some (.array n e)) (he : P.underlying e = some (.struct #[f0, f1])) (h0 : f0.type = s) (h1 : f1.type = s) (o0 : f0.offset = 0) (o1 : f1.offset = 1) (hs : P.underlying s = some .string) (hcs : P.cellsOf s = 1) (hce : P.cellsOf e = 2) (hct : P.cellsOf t = n * 2)
    (h : DataW.trod enc P w base sp held fuel t cs = some (pairsD zs, p)) : ∀ (k : Nat) z, zs[k]? = some z → cs[k * 2]? = some (bsV z.1) ∧ cs[k * 2 + 1]? = some (bsV z.2) := by
  have bsE : ∀ (x : ByteArray) (l : List UInt8), x.data.toList = l → Value.string x = bsV l := fun x l e => by
    subst e; cases x; simp
  cases fuel with
  | zero => simp [DataW.trod] at h
  | succ fuel =>
    simp only [DataW.trod, ht, hce, hct] at h
    split at h
    · rename_i hl
      obtain ⟨xs, hm, hx⟩ := Option.map_eq_some_iff.1 h
      have hxs : xs.map (·.1) = zs.map fun z => (DataW.agg [.lit (.string z.1), .lit (.string z.2)] : DataW H) := by
        have := congrArg Prod.fst hx
        simpa [pairsD] using this
      have hxl : xs.length = n := by simpa using Lib.mapM_length hm
      have hzl : zs.length = n := by
        have := congrArg List.length hxs
        simp at this
        omega
      intro k z hz
      have hk : k < n := by
        have := (List.getElem?_eq_some_iff.1 hz).1
        omega
      obtain ⟨b, hb, hf⟩ := Lib.mapM_at hm k k (by simp [hk])
      obtain ⟨y0, y1, m, e0, _, q0, q1⟩ := trod_struct2 he hf
      rw [h0, o0, hcs] at q0
      rw [h1, o1, hcs] at q1
      obtain ⟨s0, r0, z0, _⟩ := DataW.trod_string hs q0
      obtain ⟨s1, r1, z1, _⟩ := DataW.trod_string hs q1
      subst z0; subst z1
      have e2 : (xs.map (·.1))[k]? = some (DataW.agg [.lit (.string z.1), .lit (.string z.2)] : DataW H) := by
        rw [hxs, List.getElem?_map, hz]; rfl
      rw [List.getElem?_map, hb, e0] at e2
      simp only [Option.map_some, Option.some.injEq, DataW.agg.injEq, List.cons.injEq, DataW.lit.injEq, Lit.string.injEq, and_true] at e2
      have g0 : cs[k * 2]? = some (.string s0) := by
        have := congrArg (·[0]?) r0
        simpa [List.getElem?_take, List.getElem?_drop] using this
      have g1 : cs[k * 2 + 1]? = some (.string s1) := by
        have := congrArg (·[0]?) r1
        simpa [List.getElem?_take, List.getElem?_drop] using this
      exact ⟨by rw [g0, bsE _ _ e2.1], by rw [g1, bsE _ _ e2.2]⟩
    · cases h

theorem rows_of_laid {W : World} {D : DataW Unit} (h : laidMetH Tryz.prog [("pledge/op.rows", D)] W) (hD : D = pairsD ((List.range 17).map fun k => (nmS k, useS k))) : RowsOn W := by
  subst hD
  rw [MakeChecks.laidMetH_plain _ _ _ (by decide +kernel)] at h
  have hg : Tryz.prog.globalNamed "pledge/op.rows" = some 2 := by kernel_rfl
  obtain ⟨ps, ⟨g', t', cs, fuel, p, q, hg', ht', hvar, hd, _, _⟩, _⟩ := h
  obtain rfl := Option.some.inj (hg.symm.trans hg')
  obtain rfl := Option.some.inj ((show (Tryz.prog.globals[2]?).map (·.type) = some 62 by kernel_rfl).symm.trans ht')
  have hP := pairs_cells Tryz.underlying62 Tryz.underlying61 rfl rfl rfl rfl Tryz.underlying9 cellsStr (by kernel_rfl) (by kernel_rfl) hd
  intro k hk
  obtain ⟨c0, c1⟩ := hP k (nmS k, useS k) (by rw [List.getElem?_map, List.getElem?_range (by omega)]; rfl)
  have hv := World.var?_cell hg hvar
  exact ⟨by rw [hv]; simpa using c0, by rw [hv]; simpa using c1⟩
end Go.Proofs.YtongpgnnhpbcpaaGreatDoor
