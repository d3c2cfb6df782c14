/-
  DERIVED. GIVEN WITH THE SEED: THE CARDS: each row of YthlepeeejmeahaaDoorRows.lean that lists a variable, with what it lists TIED to the program's text (the seventh form; the later family's looks); each row that meets fmt, with fmt's text TOLD by the authors' own Lean function (tested against real Go, not proved from fmt's source: count such statements apart). THE CARD IS WHAT COUNTS. Prove the row's statement (the work); the ties are given (YthlepeeejmeahaaDoorTie.lean); close each card by the builder's one call (the guide's Derived/Test/ToyasCard.lean, 'card_holds'). Laid BY PROGRAM, IN A SANDBOX (cutbox-door.mjs). By AI agents, Wed Nov 11 2026. No macro, syntax, notation, axiom, sorry.
-/
import Derived.Test.YthlepeeejmeahaaDoorRows
import GoSem.ClaimSeven
namespace Go.Proofs.YthlepeeejmeahaaDoor
namespace Rows

/-- THE TIED CARD OF 'pledgelaw12.CutPlays'. -/
def cutPlaysCard : Claim7 := { stood := { row := cutPlaysRow, standIns := [], harness := (true, "6245ad0dbf7131438f5343fd318781bf7fd892c7001940487cf25139e8f1385f"), looks := true }, kinds := [], alts := [], laidByText := true, laidKinds := [.sentinel, .sentinel, .sentinel, .sentinel, .sentinel, .sentinel, .sentinel, .sentinel, .sentinel, .sentinel, .sentinel, .sentinel, .sentinel, .sentinel, .sentinel, .sentinel, .sentinel, .sentinel, .sentinel, .sentinel, .sentinel, .data], laidTests := true, laidLooks := .later }
def CutPlaysCardSaid : Prop := Claim7.holds Tryd.pinned (.plain (OpenSpec.ofChange cutPlaysSpec)) cutPlaysCard

/-- THE TIED CARD OF 'pledgelaw12.CutEnds'. -/
def cutEndsCard : Claim7 := { stood := { row := cutEndsRow, standIns := [], harness := (true, "6245ad0dbf7131438f5343fd318781bf7fd892c7001940487cf25139e8f1385f"), looks := true }, kinds := [], alts := [], laidByText := true, laidKinds := [.sentinel, .data], laidTests := true, laidLooks := .later }
def CutEndsCardSaid : Prop := Claim7.holds Tryd.pinned (.plain (OpenSpec.ofChange cutEndsSpec)) cutEndsCard

/-- THE TIED CARD OF 'pledgelaw12.CutBounds'. -/
def cutBoundsCard : Claim7 := { stood := { row := cutBoundsRow, standIns := [], harness := (true, "6245ad0dbf7131438f5343fd318781bf7fd892c7001940487cf25139e8f1385f"), looks := true }, kinds := [], alts := [], laidByText := true, laidKinds := [.sentinel, .sentinel, .sentinel, .sentinel, .sentinel, .sentinel, .sentinel, .sentinel, .sentinel, .sentinel, .sentinel, .sentinel, .sentinel, .sentinel, .sentinel, .sentinel, .sentinel, .sentinel, .sentinel, .sentinel, .sentinel, .data], laidTests := true, laidLooks := .later }
def CutBoundsCardSaid : Prop := Claim7.holds Tryd.pinned (.plain (OpenSpec.ofChange cutBoundsSpec)) cutBoundsCard

/-- THE TIED CARD OF 'pledgelaw12.CutSteps'. -/
def cutStepsCard : Claim7 := { stood := { row := cutStepsRow, standIns := [], harness := (true, "6245ad0dbf7131438f5343fd318781bf7fd892c7001940487cf25139e8f1385f"), looks := true }, kinds := [], alts := [], laidByText := true, laidKinds := [.sentinel, .data], laidTests := true, laidLooks := .later }
def CutStepsCardSaid : Prop := Claim7.holds Tryd.pinned (.plain (OpenSpec.ofChange cutStepsSpec)) cutStepsCard

/-- THE SECOND FORM's CARD OF 'pledgelaw12.CutPlays'. -/
def cutPlaysUptoCard : Claim7 := { stood := { row := cutPlaysUptoRow, standIns := [], harness := (true, "6245ad0dbf7131438f5343fd318781bf7fd892c7001940487cf25139e8f1385f"), looks := true }, kinds := [], alts := [], laidByText := true, laidKinds := [.sentinel, .sentinel, .sentinel, .sentinel, .sentinel, .sentinel, .sentinel, .sentinel, .sentinel, .sentinel, .sentinel, .sentinel, .sentinel, .sentinel, .sentinel, .sentinel, .sentinel, .sentinel, .sentinel, .sentinel, .sentinel, .data], laidTests := true, laidLooks := .later }
def CutPlaysUptoCardSaid : Prop := Claim7.holds Tryd.pinned (.plain (OpenSpec.upto cutPlaysSpec)) cutPlaysUptoCard

/-- THE SECOND FORM's CARD OF 'pledgelaw12.CutEnds'. -/
def cutEndsUptoCard : Claim7 := { stood := { row := cutEndsUptoRow, standIns := [], harness := (true, "6245ad0dbf7131438f5343fd318781bf7fd892c7001940487cf25139e8f1385f"), looks := true }, kinds := [], alts := [], laidByText := true, laidKinds := [.sentinel, .data], laidTests := true, laidLooks := .later }
def CutEndsUptoCardSaid : Prop := Claim7.holds Tryd.pinned (.plain (OpenSpec.upto cutEndsSpec)) cutEndsUptoCard

/-- THE SECOND FORM's CARD OF 'pledgelaw12.CutBounds'. -/
def cutBoundsUptoCard : Claim7 := { stood := { row := cutBoundsUptoRow, standIns := [], harness := (true, "6245ad0dbf7131438f5343fd318781bf7fd892c7001940487cf25139e8f1385f"), looks := true }, kinds := [], alts := [], laidByText := true, laidKinds := [.sentinel, .sentinel, .sentinel, .sentinel, .sentinel, .sentinel, .sentinel, .sentinel, .sentinel, .sentinel, .sentinel, .sentinel, .sentinel, .sentinel, .sentinel, .sentinel, .sentinel, .sentinel, .sentinel, .sentinel, .sentinel, .data], laidTests := true, laidLooks := .later }
def CutBoundsUptoCardSaid : Prop := Claim7.holds Tryd.pinned (.plain (OpenSpec.upto cutBoundsSpec)) cutBoundsUptoCard

/-- THE SECOND FORM's CARD OF 'pledgelaw12.CutSteps'. -/
def cutStepsUptoCard : Claim7 := { stood := { row := cutStepsUptoRow, standIns := [], harness := (true, "6245ad0dbf7131438f5343fd318781bf7fd892c7001940487cf25139e8f1385f"), looks := true }, kinds := [], alts := [], laidByText := true, laidKinds := [.sentinel, .data], laidTests := true, laidLooks := .later }
def CutStepsUptoCardSaid : Prop := Claim7.holds Tryd.pinned (.plain (OpenSpec.upto cutStepsSpec)) cutStepsUptoCard
end Rows
end Go.Proofs.YthlepeeejmeahaaDoor
