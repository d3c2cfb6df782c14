/-
  DERIVED. GIVEN WITH THE SEED: THE CARDS: each row of YteinajoiambigaaDoorRows.lean that lists a variable, with what it lists TIED to the program's text (the seventh form; the later family's looks); each row that meets fmt, with fmt's text TOLD by the authors' own Lean function (tested against real Go, not proved from fmt's source: count such statements apart). THE CARD IS WHAT COUNTS. Prove the row's statement (the work); the ties are given (YteinajoiambigaaDoorTie.lean); close each card by the builder's one call (the guide's Derived/Test/ToyasCard.lean, 'card_holds'). Laid BY PROGRAM, IN A SANDBOX (cutbox-door.mjs). By AI agents, Wed Nov 11 2026. No macro, syntax, notation, axiom, sorry.
-/
import Derived.Test.YteinajoiambigaaDoorRows
import GoSem.ClaimSeven
namespace Go.Proofs.YteinajoiambigaaDoor
namespace Rows

/-- THE TIED CARD OF 'pledgelaw14.HoldSums'. -/
def holdSumsCard : Claim7 := { stood := { row := holdSumsRow, standIns := [], harness := (true, "d40b25e8063035a9144278b6243b345b90923bc434124cb9c42664eb28f6023b"), looks := true }, kinds := [], alts := [], laidByText := true, laidKinds := [.sentinel, .sentinel, .sentinel, .sentinel, .sentinel, .sentinel, .sentinel, .sentinel, .sentinel, .sentinel, .sentinel, .sentinel, .sentinel, .sentinel, .sentinel, .sentinel, .sentinel, .sentinel, .sentinel, .sentinel, .sentinel], laidTests := true, laidLooks := .later }
def HoldSumsCardSaid : Prop := Claim7.holds Tryd.pinned (.plain (OpenSpec.ofChange holdSumsSpec)) holdSumsCard

/-- THE TIED CARD OF 'pledgelaw14.HoldBack'. -/
def holdBackCard : Claim7 := { stood := { row := holdBackRow, standIns := [], harness := (true, "d40b25e8063035a9144278b6243b345b90923bc434124cb9c42664eb28f6023b"), looks := true }, kinds := [], alts := [], laidByText := true, laidKinds := [.sentinel, .sentinel, .sentinel, .sentinel, .sentinel, .sentinel, .sentinel, .sentinel, .sentinel, .sentinel, .sentinel, .sentinel, .sentinel, .sentinel, .sentinel, .sentinel, .sentinel, .sentinel, .sentinel, .sentinel, .sentinel], laidTests := true, laidLooks := .later }
def HoldBackCardSaid : Prop := Claim7.holds Tryd.pinned (.plain (OpenSpec.ofChange holdBackSpec)) holdBackCard

/-- THE SECOND FORM's CARD OF 'pledgelaw14.HoldSums'. -/
def holdSumsUptoCard : Claim7 := { stood := { row := holdSumsUptoRow, standIns := [], harness := (true, "d40b25e8063035a9144278b6243b345b90923bc434124cb9c42664eb28f6023b"), looks := true }, kinds := [], alts := [], laidByText := true, laidKinds := [.sentinel, .sentinel, .sentinel, .sentinel, .sentinel, .sentinel, .sentinel, .sentinel, .sentinel, .sentinel, .sentinel, .sentinel, .sentinel, .sentinel, .sentinel, .sentinel, .sentinel, .sentinel, .sentinel, .sentinel, .sentinel], laidTests := true, laidLooks := .later }
def HoldSumsUptoCardSaid : Prop := Claim7.holds Tryd.pinned (.plain (OpenSpec.upto holdSumsSpec)) holdSumsUptoCard

/-- THE SECOND FORM's CARD OF 'pledgelaw14.HoldBack'. -/
def holdBackUptoCard : Claim7 := { stood := { row := holdBackUptoRow, standIns := [], harness := (true, "d40b25e8063035a9144278b6243b345b90923bc434124cb9c42664eb28f6023b"), looks := true }, kinds := [], alts := [], laidByText := true, laidKinds := [.sentinel, .sentinel, .sentinel, .sentinel, .sentinel, .sentinel, .sentinel, .sentinel, .sentinel, .sentinel, .sentinel, .sentinel, .sentinel, .sentinel, .sentinel, .sentinel, .sentinel, .sentinel, .sentinel, .sentinel, .sentinel], laidTests := true, laidLooks := .later }
def HoldBackUptoCardSaid : Prop := Claim7.holds Tryd.pinned (.plain (OpenSpec.upto holdBackSpec)) holdBackUptoCard
end Rows
end Go.Proofs.YteinajoiambigaaDoor
