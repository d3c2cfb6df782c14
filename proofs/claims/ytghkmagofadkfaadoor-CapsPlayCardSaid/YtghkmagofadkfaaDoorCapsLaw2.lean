/-
  Lines of the statement's own beside limits.
-/
import Derived.Test.YtghkmagofadkfaaDoorCapsLaw
import Derived.Test.YtghkmagofadkfaaDoorRowKeep
namespace Go.Proofs.YtghkmagofadkfaaDoor
open Go.RowKit
set_option linter.unusedVariables false

theorem infoLn : (Tryd.prog.info? 58).map (fun i => (i.zero, i.size, i.bytes)) = some (some (.agg #[.int .i64 0, .int .i64 0, .int .i64 0, .int .i64 0]), 4, 32) := by kernel_rfl
abbrev OwnLn (B : Nat) (w : World) (v : Value) (l : List Ln) : Prop := OwnR lnV 4 58 B w v l
theorem ov_other {w : World} {B g n gb : Nat} {T : CTab} (h : CpAt w B g n T) {cur : Array Value} (hg : w.heap[gb]? = some (.cells cur 58 (0, 0))) : ∀ k, cpB w g k → k ≠ gb := fun k hk e => by
  subst e
  rcases (h.blocks hk).2.2 with rfl | ⟨es, c, q⟩
  · obtain ⟨m, hr, _⟩ := h.ex
    rw [hg] at hr
    simp at hr
  · rw [hg] at q; cases q
theorem CpAt.own {w w' : World} {B C g n : Nat} {T : CTab} {v : Value} {l : List Ln} (h : CpAt w B g n T) (hown : OwnLn C w v l) (ht : Trd (fun k => v.ownBlock = some k) w w') : CpAt w' B g n T :=
  h.trd ht fun k hk e => by
    rcases hown.2 with ⟨rfl, _⟩ | ⟨gb, cap, cur, rfl, _, hgr, _⟩
    · cases e
    · exact ov_other h hgr k hk (Option.some.inj e).symm
theorem same_self (ev : Value) (c p : Int) (pl : Bool) (w : World) (hf : FaultIs w ev c pl p) : Calls Tryd.prog 19 #[ev, faultV c pl p] w fun e w' => e = .returned (.bool true) ∧ Below w.heap.size w w' :=
  (same_any ev c c p p pl pl w hf).mono fun e w' h => ⟨by rw [h.1]; simp, h.2⟩
end Go.Proofs.YtghkmagofadkfaaDoor
