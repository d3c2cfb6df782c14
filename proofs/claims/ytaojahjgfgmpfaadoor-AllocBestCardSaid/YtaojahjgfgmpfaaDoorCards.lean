/-
  DERIVED. GIVEN WITH THE SEED: THE CARDS: each row of YtaojahjgfgmpfaaDoorRows.lean that lists a variable, with what it lists TIED to the program's text (the seventh form; the later family's looks); each row that meets fmt, with fmt's text TOLD by the authors' own Lean function (tested against real Go, not proved from fmt's source: count such statements apart). THE CARD IS WHAT COUNTS. Prove the row's statement (the work); the ties are given (YtaojahjgfgmpfaaDoorTie.lean); close each card by the builder's one call (the guide's Derived/Test/ToyasCard.lean, 'card_holds'). Laid BY PROGRAM, IN A SANDBOX (cutbox-door.mjs). By AI agents, Wed Nov 11 2026. No macro, syntax, notation, axiom, sorry.
-/
import Derived.Test.YtaojahjgfgmpfaaDoorRows
import GoSem.ClaimSeven
namespace Go.Proofs.YtaojahjgfgmpfaaDoor
namespace Rows

/-- THE TIED CARD OF 'pledgelaw20.AllocBest'. -/
def allocBestCard : Claim7 := { stood := { row := allocBestRow, standIns := [], harness := (true, "a38f3a7f34ca2cf164eb0749657231875012049142a458102c781fd0ddcae6d3"), looks := true }, kinds := [], alts := [], laidByText := true, laidKinds := [.sentinel, .sentinel, .sentinel, .sentinel, .sentinel, .sentinel, .sentinel, .sentinel, .sentinel, .sentinel, .sentinel, .sentinel, .sentinel, .sentinel, .sentinel, .sentinel, .sentinel, .sentinel, .sentinel, .sentinel, .sentinel], laidTests := true, laidLooks := .later }
def AllocBestCardSaid : Prop := Claim7.holds Tryd.pinned (.plain (OpenSpec.ofChange allocBestSpec)) allocBestCard

/-- THE TIED CARD OF 'pledgelaw20.AllocCosts'. -/
def allocCostsCard : Claim7 := { stood := { row := allocCostsRow, standIns := [], harness := (true, "a38f3a7f34ca2cf164eb0749657231875012049142a458102c781fd0ddcae6d3"), looks := true }, kinds := [], alts := [], laidByText := true, laidKinds := [.sentinel, .sentinel, .sentinel, .sentinel, .sentinel, .sentinel, .sentinel, .sentinel, .sentinel, .sentinel, .sentinel, .sentinel, .sentinel, .sentinel, .sentinel, .sentinel, .sentinel, .sentinel, .sentinel, .sentinel, .sentinel], laidTests := true, laidLooks := .later }
def AllocCostsCardSaid : Prop := Claim7.holds Tryd.pinned (.plain (OpenSpec.ofChange allocCostsSpec)) allocCostsCard

/-- THE TIED CARD OF 'pledgelaw20.AllocSame'. -/
def allocSameCard : Claim7 := { stood := { row := allocSameRow, standIns := [], harness := (true, "a38f3a7f34ca2cf164eb0749657231875012049142a458102c781fd0ddcae6d3"), looks := true }, kinds := [], alts := [], laidByText := true, laidKinds := [.sentinel, .sentinel, .sentinel], laidTests := true, laidLooks := .later }
def AllocSameCardSaid : Prop := Claim7.holds Tryd.pinned (.plain (OpenSpec.ofChange allocSameSpec)) allocSameCard

/-- THE TIED CARD OF 'pledgelaw20.AllocOne'. -/
def allocOneCard : Claim7 := { stood := { row := allocOneRow, standIns := [], harness := (true, "a38f3a7f34ca2cf164eb0749657231875012049142a458102c781fd0ddcae6d3"), looks := true }, kinds := [], alts := [], laidByText := true, laidKinds := [.sentinel, .sentinel, .sentinel], laidTests := true, laidLooks := .later }
def AllocOneCardSaid : Prop := Claim7.holds Tryd.pinned (.plain (OpenSpec.ofChange allocOneSpec)) allocOneCard

/-- THE TIED CARD OF 'pledgelaw20.AllocCaps'. -/
def allocCapsCard : Claim7 := { stood := { row := allocCapsRow, standIns := [], harness := (true, "a38f3a7f34ca2cf164eb0749657231875012049142a458102c781fd0ddcae6d3"), looks := true }, kinds := [], alts := [], laidByText := true, laidKinds := [.sentinel, .sentinel, .sentinel], laidTests := true, laidLooks := .later }
def AllocCapsCardSaid : Prop := Claim7.holds Tryd.pinned (.plain (OpenSpec.ofChange allocCapsSpec)) allocCapsCard

/-- THE TIED CARD OF 'pledgelaw20.AllocMore'. -/
def allocMoreCard : Claim7 := { stood := { row := allocMoreRow, standIns := [], harness := (true, "a38f3a7f34ca2cf164eb0749657231875012049142a458102c781fd0ddcae6d3"), looks := true }, kinds := [], alts := [], laidByText := true, laidKinds := [.sentinel, .sentinel, .sentinel], laidTests := true, laidLooks := .later }
def AllocMoreCardSaid : Prop := Claim7.holds Tryd.pinned (.plain (OpenSpec.ofChange allocMoreSpec)) allocMoreCard

/-- THE SECOND FORM's CARD OF 'pledgelaw20.AllocBest'. -/
def allocBestUptoCard : Claim7 := { stood := { row := allocBestUptoRow, standIns := [], harness := (true, "a38f3a7f34ca2cf164eb0749657231875012049142a458102c781fd0ddcae6d3"), looks := true }, kinds := [], alts := [], laidByText := true, laidKinds := [.sentinel, .sentinel, .sentinel, .sentinel, .sentinel, .sentinel, .sentinel, .sentinel, .sentinel, .sentinel, .sentinel, .sentinel, .sentinel, .sentinel, .sentinel, .sentinel, .sentinel, .sentinel, .sentinel, .sentinel, .sentinel], laidTests := true, laidLooks := .later }
def AllocBestUptoCardSaid : Prop := Claim7.holds Tryd.pinned (.plain (OpenSpec.upto allocBestSpec)) allocBestUptoCard

/-- THE SECOND FORM's CARD OF 'pledgelaw20.AllocCosts'. -/
def allocCostsUptoCard : Claim7 := { stood := { row := allocCostsUptoRow, standIns := [], harness := (true, "a38f3a7f34ca2cf164eb0749657231875012049142a458102c781fd0ddcae6d3"), looks := true }, kinds := [], alts := [], laidByText := true, laidKinds := [.sentinel, .sentinel, .sentinel, .sentinel, .sentinel, .sentinel, .sentinel, .sentinel, .sentinel, .sentinel, .sentinel, .sentinel, .sentinel, .sentinel, .sentinel, .sentinel, .sentinel, .sentinel, .sentinel, .sentinel, .sentinel], laidTests := true, laidLooks := .later }
def AllocCostsUptoCardSaid : Prop := Claim7.holds Tryd.pinned (.plain (OpenSpec.upto allocCostsSpec)) allocCostsUptoCard

/-- THE SECOND FORM's CARD OF 'pledgelaw20.AllocSame'. -/
def allocSameUptoCard : Claim7 := { stood := { row := allocSameUptoRow, standIns := [], harness := (true, "a38f3a7f34ca2cf164eb0749657231875012049142a458102c781fd0ddcae6d3"), looks := true }, kinds := [], alts := [], laidByText := true, laidKinds := [.sentinel, .sentinel, .sentinel], laidTests := true, laidLooks := .later }
def AllocSameUptoCardSaid : Prop := Claim7.holds Tryd.pinned (.plain (OpenSpec.upto allocSameSpec)) allocSameUptoCard

/-- THE SECOND FORM's CARD OF 'pledgelaw20.AllocOne'. -/
def allocOneUptoCard : Claim7 := { stood := { row := allocOneUptoRow, standIns := [], harness := (true, "a38f3a7f34ca2cf164eb0749657231875012049142a458102c781fd0ddcae6d3"), looks := true }, kinds := [], alts := [], laidByText := true, laidKinds := [.sentinel, .sentinel, .sentinel], laidTests := true, laidLooks := .later }
def AllocOneUptoCardSaid : Prop := Claim7.holds Tryd.pinned (.plain (OpenSpec.upto allocOneSpec)) allocOneUptoCard

/-- THE SECOND FORM's CARD OF 'pledgelaw20.AllocCaps'. -/
def allocCapsUptoCard : Claim7 := { stood := { row := allocCapsUptoRow, standIns := [], harness := (true, "a38f3a7f34ca2cf164eb0749657231875012049142a458102c781fd0ddcae6d3"), looks := true }, kinds := [], alts := [], laidByText := true, laidKinds := [.sentinel, .sentinel, .sentinel], laidTests := true, laidLooks := .later }
def AllocCapsUptoCardSaid : Prop := Claim7.holds Tryd.pinned (.plain (OpenSpec.upto allocCapsSpec)) allocCapsUptoCard

/-- THE SECOND FORM's CARD OF 'pledgelaw20.AllocMore'. -/
def allocMoreUptoCard : Claim7 := { stood := { row := allocMoreUptoRow, standIns := [], harness := (true, "a38f3a7f34ca2cf164eb0749657231875012049142a458102c781fd0ddcae6d3"), looks := true }, kinds := [], alts := [], laidByText := true, laidKinds := [.sentinel, .sentinel, .sentinel], laidTests := true, laidLooks := .later }
def AllocMoreUptoCardSaid : Prop := Claim7.holds Tryd.pinned (.plain (OpenSpec.upto allocMoreSpec)) allocMoreUptoCard
end Rows
end Go.Proofs.YtaojahjgfgmpfaaDoor
