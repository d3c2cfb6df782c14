/-
  NARROWER THAN 'FOR EVERY INPUT', by the rows' own cells (each row's printed sentence says how): BoundHolds: laid · BoundGrows: laid.
  DERIVED. THE GIVEN ROWS OF THIS SEAT. 2 by the template 'for every input the law returns true; each argument reads behind the call as it read before'; 0 by the template 'total and deterministic' (their statements: YtodhoblacalbiaaDoorTotals.lean).
  GIVEN WITH THE SEED: the statements are not yours to turn. If you find one false, say at which input.
  Laid BY PROGRAM, IN A SANDBOX (cutbox-rows.mjs): the forced cells as the released guide's own fill.sh prints them over the translation 7b581289e528e2ba… (all of the seat's roots in one cut). By AI agents, Wed Nov 11 2026. No macro, syntax, notation, axiom, sorry.
-/
import Derived.Test.YtodhoblacalbiaaDoorChecked
import GoSem.Claim
import GoSem.ClaimJoined
import GoSem.ClaimMapViews
import Derived.JoinedTies
import Derived.KernelRfl
namespace Go.Proofs.YtodhoblacalbiaaDoor
/- THE CELL 'sum', in the pinned program and in every row, IS THE sha256 OF THE DUMP (.gsa) THAT YtodhoblacalbiaaDoorProg.lean LOADS. Nothing in Lean hashes anything: it is a label: what it is worth is what the hold of that sum in a sandbox is worth. -/
noncomputable def Tryd.pinned : Pinned := { name := "ytodhoblacalbiaadoor", sum := "7b581289e528e2ba1b4108bd16b3d4668c4430d4f4f41b9fb22f73dafdcadf32", checked := Tryd.checked }
namespace Rows
def none {H : Type} : Left H := { results := [], args := [] }

/- WHAT THE LISTED PACKAGE-LEVEL VARIABLES READ AS WHEN THE CALL BEGINS. Each datum BY PROGRAM (the guide's laid-datum.mjs) off the statement by which the dump's own 'gosem.cut.vars' lays the variable. In a bare row this is a premise. The card (YtodhoblacalbiaaDoorCards.lean) ties it to the program's text. -/
def laid_pledge_api_ErrRange {H : Type} : DataW H := .iface "*errors.errorString" (.ptr (.agg [.lit (.string [97, 32, 110, 117, 109, 98, 101, 114, 32, 111, 117, 116, 32, 111, 102, 32, 105, 116, 115, 32, 114, 97, 110, 103, 101])]))
def laid_pledge_api_ErrMany {H : Type} : DataW H := .iface "*errors.errorString" (.ptr (.agg [.lit (.string [116, 111, 111, 32, 109, 97, 110, 121])]))

/-- 'pledgelaw19.BoundHolds': WHATEVER THE INPUT: true; the input reads as it did. -/
def boundHoldsSpec : ChangeSpec := { name := "boundHolds", fn := fun _ => fun
  | [d1, d2, d3] => { results := [.lit (.bool true)], args := [d1, d2, d3] }
  | _ => none }
def boundHoldsRow : OpenClaim := { program := "ytodhoblacalbiaadoor", sum := "7b581289e528e2ba1b4108bd16b3d4668c4430d4f4f41b9fb22f73dafdcadf32", func := "pledge/pledgelaw19.BoundHolds", spec := "boundHolds", unfollowed := true, recurses := true, named := ["pledge/api.ErrMany", "pledge/api.ErrRange", "math/bits.divideError", "math/bits.overflowError"], apart := false, laid := [("pledge/api.ErrRange", laid_pledge_api_ErrRange), ("pledge/api.ErrMany", laid_pledge_api_ErrMany)] }
def BoundHoldsSaid : Prop := boundHoldsRow.holds Tryd.pinned (OpenSpec.ofChange boundHoldsSpec)

/-- ITS FALSE NEIGHBOUR: 'it returns false'. Refute it at one input. -/
def boundHoldsWrong : ChangeSpec := { name := "boundHolds", fn := fun _ => fun
  | [d1, d2, d3] => { results := [.lit (.bool false)], args := [d1, d2, d3] }
  | _ => none }
def BoundHoldsWrongFalsely : Prop := boundHoldsRow.holds Tryd.pinned (OpenSpec.ofChange boundHoldsWrong)

/-- 'pledgelaw19.BoundGrows': WHATEVER THE INPUT: true; the input reads as it did. -/
def boundGrowsSpec : ChangeSpec := { name := "boundGrows", fn := fun _ => fun
  | [d1, d2, d3, d4] => { results := [.lit (.bool true)], args := [d1, d2, d3, d4] }
  | _ => none }
def boundGrowsRow : OpenClaim := { program := "ytodhoblacalbiaadoor", sum := "7b581289e528e2ba1b4108bd16b3d4668c4430d4f4f41b9fb22f73dafdcadf32", func := "pledge/pledgelaw19.BoundGrows", spec := "boundGrows", unfollowed := true, recurses := true, named := ["pledge/api.ErrMany", "pledge/api.ErrRange", "math/bits.divideError", "math/bits.overflowError"], apart := false, laid := [("pledge/api.ErrRange", laid_pledge_api_ErrRange), ("pledge/api.ErrMany", laid_pledge_api_ErrMany)] }
def BoundGrowsSaid : Prop := boundGrowsRow.holds Tryd.pinned (OpenSpec.ofChange boundGrowsSpec)

/-- ITS FALSE NEIGHBOUR: 'it returns false'. Refute it at one input. -/
def boundGrowsWrong : ChangeSpec := { name := "boundGrows", fn := fun _ => fun
  | [d1, d2, d3, d4] => { results := [.lit (.bool false)], args := [d1, d2, d3, d4] }
  | _ => none }
def BoundGrowsWrongFalsely : Prop := boundGrowsRow.holds Tryd.pinned (OpenSpec.ofChange boundGrowsWrong)

/- THE SECOND FORM. 'bulk': how many values and letters a reading holds, each counted each time it is reached (what is shared counts as often as it is met; a slice's spare places count too). A statement '..UptoSaid' is the law's where the arguments, and the package variables that the reading takes, are together of bulk at most 1048576: NARROWER than '..Said'. Prove '..Said' where nothing that the law and all that it calls make is longer than what came in: it says more and counts as full. Else prove '..UptoSaid'. A law counts once. -/
mutual
def uptoBulk {H : Type} : DataW H → Nat
  | .lit (.string bytes) => bytes.length + 1
  | .lit _ => 1
  | .nil => 1
  | .ptr d => uptoBulk d + 1
  | .slice elems spare => uptoBulkAll elems + uptoBulkAll spare + 1
  | .agg parts => uptoBulkAll parts + 1
  | .iface _ d => uptoBulk d + 1
  | .map entries => uptoBulkEntries entries + 1
  | .held _ => 1
def uptoBulkAll {H : Type} : List (DataW H) → Nat
  | [] => 0
  | d :: r => uptoBulk d + uptoBulkAll r
def uptoBulkEntries {H : Type} : List (Lit × DataW H) → Nat
  | [] => 0
  | x :: r => uptoBulkEntry x + uptoBulkEntries r
def uptoBulkEntry {H : Type} : Lit × DataW H → Nat
  | (.string bytes, d) => bytes.length + uptoBulk d + 1
  | (_, d) => uptoBulk d + 1
 end
def uptoSmall : (H : Type) → List (DataW H) → Bool := fun _ ds => decide (uptoBulkAll ds ≤ 1048576)
def OpenSpec.upto (s : _root_.Go.ChangeSpec) : _root_.Go.OpenSpec := { _root_.Go.OpenSpec.ofChange s with cond := some uptoSmall }

/-- 'pledgelaw19.BoundHolds', WHERE WHAT IT READS IS OF BULK AT MOST 1048576: true; the input reads as it did. -/
def boundHoldsUptoRow : OpenClaim := { program := "ytodhoblacalbiaadoor", sum := "7b581289e528e2ba1b4108bd16b3d4668c4430d4f4f41b9fb22f73dafdcadf32", func := "pledge/pledgelaw19.BoundHolds", spec := "boundHolds", unfollowed := true, recurses := true, named := ["pledge/api.ErrMany", "pledge/api.ErrRange", "math/bits.divideError", "math/bits.overflowError"], apart := false, laid := [("pledge/api.ErrRange", laid_pledge_api_ErrRange), ("pledge/api.ErrMany", laid_pledge_api_ErrMany)], narrowed := true }
def BoundHoldsUptoSaid : Prop := boundHoldsUptoRow.holds Tryd.pinned (OpenSpec.upto boundHoldsSpec)

/-- 'pledgelaw19.BoundGrows', WHERE WHAT IT READS IS OF BULK AT MOST 1048576: true; the input reads as it did. -/
def boundGrowsUptoRow : OpenClaim := { program := "ytodhoblacalbiaadoor", sum := "7b581289e528e2ba1b4108bd16b3d4668c4430d4f4f41b9fb22f73dafdcadf32", func := "pledge/pledgelaw19.BoundGrows", spec := "boundGrows", unfollowed := true, recurses := true, named := ["pledge/api.ErrMany", "pledge/api.ErrRange", "math/bits.divideError", "math/bits.overflowError"], apart := false, laid := [("pledge/api.ErrRange", laid_pledge_api_ErrRange), ("pledge/api.ErrMany", laid_pledge_api_ErrMany)], narrowed := true }
def BoundGrowsUptoSaid : Prop := boundGrowsUptoRow.holds Tryd.pinned (OpenSpec.upto boundGrowsSpec)

end Rows
end Go.Proofs.YtodhoblacalbiaaDoor
