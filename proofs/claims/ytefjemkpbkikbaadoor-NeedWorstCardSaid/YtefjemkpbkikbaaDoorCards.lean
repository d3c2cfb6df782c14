/-
  DERIVED. GIVEN WITH THE SEED: THE CARDS: each row of YtefjemkpbkikbaaDoorRows.lean that lists a variable, with what it lists TIED to the program's text (the seventh form; the later family's looks); each row that meets fmt, with fmt's text TOLD by the authors' own Lean function (tested against real Go, not proved from fmt's source: count such statements apart). THE CARD IS WHAT COUNTS. Prove the row's statement (the work); the ties are given (YtefjemkpbkikbaaDoorTie.lean); close each card by the builder's one call (the guide's Derived/Test/ToyasCard.lean, 'card_holds'). Laid BY PROGRAM, IN A SANDBOX (cutbox-door.mjs). By AI agents, Wed Nov 11 2026. No macro, syntax, notation, axiom, sorry.
-/
import Derived.Test.YtefjemkpbkikbaaDoorRows
import GoSem.ClaimSeven
namespace Go.Proofs.YtefjemkpbkikbaaDoor
namespace Rows

/-- THE TIED CARD OF 'pledgelaw17.NeedSays'. -/
def needSaysCard : Claim7 := { stood := { row := needSaysRow, standIns := [], harness := (true, "20ab39f86a1f5dc1ebc3d38af1f82c7fe0c320241ef00869b25537ace2cff946"), looks := true }, kinds := [], alts := [], laidByText := true, laidKinds := [.sentinel, .sentinel, .sentinel, .sentinel, .sentinel, .sentinel, .sentinel, .sentinel, .sentinel, .sentinel, .sentinel, .sentinel, .sentinel, .sentinel, .sentinel, .sentinel, .sentinel, .sentinel, .sentinel, .sentinel, .sentinel], laidTests := true, laidLooks := .later }
def NeedSaysCardSaid : Prop := Claim7.holds Tryd.pinned (.plain (OpenSpec.ofChange needSaysSpec)) needSaysCard

/-- THE TIED CARD OF 'pledgelaw17.NeedEvens'. -/
def needEvensCard : Claim7 := { stood := { row := needEvensRow, standIns := [], harness := (true, "20ab39f86a1f5dc1ebc3d38af1f82c7fe0c320241ef00869b25537ace2cff946"), looks := true }, kinds := [], alts := [], laidByText := true, laidKinds := [.sentinel], laidTests := true, laidLooks := .later }
def NeedEvensCardSaid : Prop := Claim7.holds Tryd.pinned (.plain (OpenSpec.ofChange needEvensSpec)) needEvensCard

/-- THE TIED CARD OF 'pledgelaw17.NeedWorst'. -/
def needWorstCard : Claim7 := { stood := { row := needWorstRow, standIns := [], harness := (true, "20ab39f86a1f5dc1ebc3d38af1f82c7fe0c320241ef00869b25537ace2cff946"), looks := true }, kinds := [], alts := [], laidByText := true, laidKinds := [.sentinel, .sentinel], laidTests := true, laidLooks := .later }
def NeedWorstCardSaid : Prop := Claim7.holds Tryd.pinned (.plain (OpenSpec.ofChange needWorstSpec)) needWorstCard

/-- THE SECOND FORM's CARD OF 'pledgelaw17.NeedSays'. -/
def needSaysUptoCard : Claim7 := { stood := { row := needSaysUptoRow, standIns := [], harness := (true, "20ab39f86a1f5dc1ebc3d38af1f82c7fe0c320241ef00869b25537ace2cff946"), looks := true }, kinds := [], alts := [], laidByText := true, laidKinds := [.sentinel, .sentinel, .sentinel, .sentinel, .sentinel, .sentinel, .sentinel, .sentinel, .sentinel, .sentinel, .sentinel, .sentinel, .sentinel, .sentinel, .sentinel, .sentinel, .sentinel, .sentinel, .sentinel, .sentinel, .sentinel], laidTests := true, laidLooks := .later }
def NeedSaysUptoCardSaid : Prop := Claim7.holds Tryd.pinned (.plain (OpenSpec.upto needSaysSpec)) needSaysUptoCard

/-- THE SECOND FORM's CARD OF 'pledgelaw17.NeedEvens'. -/
def needEvensUptoCard : Claim7 := { stood := { row := needEvensUptoRow, standIns := [], harness := (true, "20ab39f86a1f5dc1ebc3d38af1f82c7fe0c320241ef00869b25537ace2cff946"), looks := true }, kinds := [], alts := [], laidByText := true, laidKinds := [.sentinel], laidTests := true, laidLooks := .later }
def NeedEvensUptoCardSaid : Prop := Claim7.holds Tryd.pinned (.plain (OpenSpec.upto needEvensSpec)) needEvensUptoCard

/-- THE SECOND FORM's CARD OF 'pledgelaw17.NeedWorst'. -/
def needWorstUptoCard : Claim7 := { stood := { row := needWorstUptoRow, standIns := [], harness := (true, "20ab39f86a1f5dc1ebc3d38af1f82c7fe0c320241ef00869b25537ace2cff946"), looks := true }, kinds := [], alts := [], laidByText := true, laidKinds := [.sentinel, .sentinel], laidTests := true, laidLooks := .later }
def NeedWorstUptoCardSaid : Prop := Claim7.holds Tryd.pinned (.plain (OpenSpec.upto needWorstSpec)) needWorstUptoCard
end Rows
end Go.Proofs.YtefjemkpbkikbaaDoor
