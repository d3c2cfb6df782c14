/-
  Limits that are set, one behind the other.
-/
import Derived.Test.YtghkmagofadkfaaDoorCapsLaw
import Derived.Test.YtghkmagofadkfaaDoorRow
namespace Go.Proofs.YtghkmagofadkfaaDoor
open Go.RowKit
set_option linter.unusedVariables false

/-- a limit and its amount. -/
structure CpDo where
  k : Int
  d : Int
  x : Int
def CpDoBig (e : CpDo) : Prop := (-9223372036854775808 ≤ e.k ∧ e.k ≤ 9223372036854775807) ∧ (-9223372036854775808 ≤ e.d ∧ e.d ≤ 9223372036854775807) ∧ (-9223372036854775808 ≤ e.x ∧ e.x ≤ 9223372036854775807)
def cpDoV (e : CpDo) : List Value := [.int .i64 e.k, .int .i64 e.d, .int .i64 e.x]
def cpZ : CpDo := ⟨0, 0, 0⟩
theorem cpDoV_len (e : CpDo) : (cpDoV e).length = 3 := rfl
abbrev ThreeAt (w : World) (b o : Nat) (e : CpDo) : Prop :=
  w.cell? ⟨b, o, none⟩ = some (.int .i64 e.k) ∧ w.cell? ⟨b, o + 1, none⟩ = some (.int .i64 e.d) ∧ w.cell? ⟨b, o + 2, none⟩ = some (.int .i64 e.x)
theorem rowC_at {w : World} {a : Option Addr} {n c : Nat} {l : List CpDo} (h : Row cpDoV 3 w (.slice a n c) l) (k : Nat) (hk : k < n) : ∃ b o, a = some ⟨b, o, none⟩ ∧ ThreeAt w b (o + k * 3) (l.getD k cpZ) := by
  obtain ⟨b, o, rfl, hc⟩ := h.at cpDoV_len cpZ k hk (by decide)
  exact ⟨b, o, rfl, hc 0 (by omega), hc 1 (by omega), hc 2 (by omega)⟩
def doC (T : CTab) (e : CpDo) : CTab := setCT T (e.k, e.d) e.x
def capT (l : List CpDo) : CTab := l.foldl doC noC
theorem capT_ca_of (l : List CpDo) : ∀ T, CaT T → CaT (l.foldl doC T) := by
  induction l with
  | nil => exact fun T h => h
  | cons e l ih => exact fun T h => ih _ (h.set _ _)
theorem capT_ca (l : List CpDo) : CaT (capT l) := capT_ca_of l _ noC_ca
theorem capT_snoc (l : List CpDo) (k : Nat) (h : k < l.length) : capT (l.take (k + 1)) = doC (capT (l.take k)) (l.getD k cpZ) := by
  unfold capT
  rw [List.take_succ_eq_append_getElem h, List.foldl_append, List.getD_eq_getElem?_getD, List.getElem?_eq_getElem h]; rfl
theorem getC_mem {l : List CpDo} {k : Nat} (h : k < l.length) : l.getD k cpZ ∈ l := by
  rw [List.getD_eq_getElem?_getD, List.getElem?_eq_getElem h]; exact List.getElem_mem h
/-- an element's cells, whatever has been made behind the argument. -/
abbrev DoCS (w : World) (b o : Nat) (k d x : Int) (W : World) : Prop :=
  (W.cell? ⟨b, o, none⟩ = some (.int .i64 k) ∧ W.cell? ⟨b, o + 1, none⟩ = some (.int .i64 d) ∧ W.cell? ⟨b, o + 2, none⟩ = some (.int .i64 x)) ∧ Below w.heap.size w W
/-- no limits at all, in a block. -/
theorem cpAt_none {w : World} {B g : Nat} (hB : B ≤ g) (h : w.heap[g]? = some (.cells #[.map none] 29 (0, 0))) : CpAt w B g 0 noC := ⟨⟨none, h, rfl, fun b e => by cases e⟩, hB, noC_ca⟩
end Go.Proofs.YtghkmagofadkfaaDoor
