/-
  DERIVED. GIVEN WITH THE SEED: THE CARDS: each row of YtddchfdbkgpndaaDoorRows.lean that lists a variable, with what it lists TIED to the program's text (the seventh form; the later family's looks); each row that meets fmt, with fmt's text TOLD by the authors' own Lean function (tested against real Go, not proved from fmt's source: count such statements apart). THE CARD IS WHAT COUNTS. Prove the row's statement (the work); the ties are given (YtddchfdbkgpndaaDoorTie.lean); close each card by the builder's one call (the guide's Derived/Test/ToyasCard.lean, 'card_holds'). Laid BY PROGRAM, IN A SANDBOX (cutbox-door.mjs). By AI agents, Wed Nov 11 2026. No macro, syntax, notation, axiom, sorry.
-/
import Derived.Test.YtddchfdbkgpndaaDoorRows
import GoSem.ClaimSeven
namespace Go.Proofs.YtddchfdbkgpndaaDoor
namespace Rows

/-- THE TIED CARD OF 'pledgelaw22.StressPlays'. -/
def stressPlaysCard : Claim7 := { stood := { row := stressPlaysRow, standIns := [], harness := (true, "1673a3bf033ceba1a70cc23f4a0ba59643e0f692fd1812fbc25ea52c52bfb907"), looks := true }, kinds := [], alts := [], laidByText := true, laidKinds := [.sentinel, .sentinel, .sentinel, .sentinel, .sentinel, .sentinel, .sentinel, .sentinel, .sentinel, .sentinel, .sentinel, .sentinel, .sentinel, .sentinel, .sentinel, .sentinel, .sentinel, .sentinel, .sentinel, .sentinel, .sentinel], laidTests := true, laidLooks := .later }
def StressPlaysCardSaid : Prop := Claim7.holds Tryd.pinned (.plain (OpenSpec.ofChange stressPlaysSpec)) stressPlaysCard

/-- THE TIED CARD OF 'pledgelaw22.StressCovers'. -/
def stressCoversCard : Claim7 := { stood := { row := stressCoversRow, standIns := [], harness := (true, "1673a3bf033ceba1a70cc23f4a0ba59643e0f692fd1812fbc25ea52c52bfb907"), looks := true }, kinds := [], alts := [], laidByText := true, laidKinds := [.sentinel, .sentinel, .sentinel], laidTests := true, laidLooks := .later }
def StressCoversCardSaid : Prop := Claim7.holds Tryd.pinned (.plain (OpenSpec.ofChange stressCoversSpec)) stressCoversCard

/-- THE TIED CARD OF 'pledgelaw22.StressTops'. -/
def stressTopsCard : Claim7 := { stood := { row := stressTopsRow, standIns := [], harness := (true, "1673a3bf033ceba1a70cc23f4a0ba59643e0f692fd1812fbc25ea52c52bfb907"), looks := true }, kinds := [], alts := [], laidByText := true, laidKinds := [.sentinel, .sentinel, .sentinel], laidTests := true, laidLooks := .later }
def StressTopsCardSaid : Prop := Claim7.holds Tryd.pinned (.plain (OpenSpec.ofChange stressTopsSpec)) stressTopsCard

/-- THE SECOND FORM's CARD OF 'pledgelaw22.StressPlays'. -/
def stressPlaysUptoCard : Claim7 := { stood := { row := stressPlaysUptoRow, standIns := [], harness := (true, "1673a3bf033ceba1a70cc23f4a0ba59643e0f692fd1812fbc25ea52c52bfb907"), looks := true }, kinds := [], alts := [], laidByText := true, laidKinds := [.sentinel, .sentinel, .sentinel, .sentinel, .sentinel, .sentinel, .sentinel, .sentinel, .sentinel, .sentinel, .sentinel, .sentinel, .sentinel, .sentinel, .sentinel, .sentinel, .sentinel, .sentinel, .sentinel, .sentinel, .sentinel], laidTests := true, laidLooks := .later }
def StressPlaysUptoCardSaid : Prop := Claim7.holds Tryd.pinned (.plain (OpenSpec.upto stressPlaysSpec)) stressPlaysUptoCard

/-- THE SECOND FORM's CARD OF 'pledgelaw22.StressCovers'. -/
def stressCoversUptoCard : Claim7 := { stood := { row := stressCoversUptoRow, standIns := [], harness := (true, "1673a3bf033ceba1a70cc23f4a0ba59643e0f692fd1812fbc25ea52c52bfb907"), looks := true }, kinds := [], alts := [], laidByText := true, laidKinds := [.sentinel, .sentinel, .sentinel], laidTests := true, laidLooks := .later }
def StressCoversUptoCardSaid : Prop := Claim7.holds Tryd.pinned (.plain (OpenSpec.upto stressCoversSpec)) stressCoversUptoCard

/-- THE SECOND FORM's CARD OF 'pledgelaw22.StressTops'. -/
def stressTopsUptoCard : Claim7 := { stood := { row := stressTopsUptoRow, standIns := [], harness := (true, "1673a3bf033ceba1a70cc23f4a0ba59643e0f692fd1812fbc25ea52c52bfb907"), looks := true }, kinds := [], alts := [], laidByText := true, laidKinds := [.sentinel, .sentinel, .sentinel], laidTests := true, laidLooks := .later }
def StressTopsUptoCardSaid : Prop := Claim7.holds Tryd.pinned (.plain (OpenSpec.upto stressTopsSpec)) stressTopsUptoCard
end Rows
end Go.Proofs.YtddchfdbkgpndaaDoor
