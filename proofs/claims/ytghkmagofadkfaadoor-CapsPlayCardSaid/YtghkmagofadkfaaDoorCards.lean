/-
  DERIVED. GIVEN WITH THE SEED: THE CARDS: each row of YtghkmagofadkfaaDoorRows.lean that lists a variable, with what it lists TIED to the program's text (the seventh form; the later family's looks); each row that meets fmt, with fmt's text TOLD by the authors' own Lean function (tested against real Go, not proved from fmt's source: count such statements apart). THE CARD IS WHAT COUNTS. Prove the row's statement (the work); the ties are given (YtghkmagofadkfaaDoorTie.lean); close each card by the builder's one call (the guide's Derived/Test/ToyasCard.lean, 'card_holds'). Laid BY PROGRAM, IN A SANDBOX (cutbox-door.mjs). By AI agents, Wed Nov 11 2026. No macro, syntax, notation, axiom, sorry.
-/
import Derived.Test.YtghkmagofadkfaaDoorRows
import GoSem.ClaimSeven
namespace Go.Proofs.YtghkmagofadkfaaDoor
namespace Rows

/-- THE TIED CARD OF 'pledgelaw16.CapsPlay'. -/
def capsPlayCard : Claim7 := { stood := { row := capsPlayRow, standIns := [], harness := (true, "de1d799e66aee33474950ccb1ddbfb62c21fc003e103c6eca00f59b0d95119aa"), looks := true }, kinds := [], alts := [], laidByText := true, laidKinds := [.sentinel, .sentinel, .sentinel, .sentinel, .sentinel, .sentinel, .sentinel, .sentinel, .sentinel, .sentinel, .sentinel, .sentinel, .sentinel, .sentinel, .sentinel, .sentinel, .sentinel, .sentinel, .sentinel, .sentinel, .sentinel], laidTests := true, laidLooks := .later }
def CapsPlayCardSaid : Prop := Claim7.holds Tryd.pinned (.plain (OpenSpec.ofChange capsPlaySpec)) capsPlayCard

/-- THE TIED CARD OF 'pledgelaw16.CapsOrder'. -/
def capsOrderCard : Claim7 := { stood := { row := capsOrderRow, standIns := [], harness := (true, "de1d799e66aee33474950ccb1ddbfb62c21fc003e103c6eca00f59b0d95119aa"), looks := true }, kinds := [], alts := [], laidByText := true, laidKinds := [.sentinel, .sentinel], laidTests := true, laidLooks := .later }
def CapsOrderCardSaid : Prop := Claim7.holds Tryd.pinned (.plain (OpenSpec.ofChange capsOrderSpec)) capsOrderCard

/-- THE TIED CARD OF 'pledgelaw16.CapsMost'. -/
def capsMostCard : Claim7 := { stood := { row := capsMostRow, standIns := [], harness := (true, "de1d799e66aee33474950ccb1ddbfb62c21fc003e103c6eca00f59b0d95119aa"), looks := true }, kinds := [], alts := [], laidByText := true, laidKinds := [.sentinel, .sentinel], laidTests := true, laidLooks := .later }
def CapsMostCardSaid : Prop := Claim7.holds Tryd.pinned (.plain (OpenSpec.ofChange capsMostSpec)) capsMostCard

/-- THE TIED CARD OF 'pledgelaw16.CapsOver'. -/
def capsOverCard : Claim7 := { stood := { row := capsOverRow, standIns := [], harness := (true, "de1d799e66aee33474950ccb1ddbfb62c21fc003e103c6eca00f59b0d95119aa"), looks := true }, kinds := [], alts := [], laidByText := true, laidKinds := [.sentinel, .sentinel, .sentinel, .sentinel, .sentinel, .sentinel, .sentinel, .sentinel, .sentinel, .sentinel, .sentinel, .sentinel, .sentinel, .sentinel, .sentinel, .sentinel, .sentinel, .sentinel, .sentinel, .sentinel, .sentinel], laidTests := true, laidLooks := .later }
def CapsOverCardSaid : Prop := Claim7.holds Tryd.pinned (.plain (OpenSpec.ofChange capsOverSpec)) capsOverCard

/-- THE TIED CARD OF 'pledgelaw16.CapsNest'. -/
def capsNestCard : Claim7 := { stood := { row := capsNestRow, standIns := [], harness := (true, "de1d799e66aee33474950ccb1ddbfb62c21fc003e103c6eca00f59b0d95119aa"), looks := true }, kinds := [], alts := [], laidByText := true, laidKinds := [.sentinel, .sentinel], laidTests := true, laidLooks := .later }
def CapsNestCardSaid : Prop := Claim7.holds Tryd.pinned (.plain (OpenSpec.ofChange capsNestSpec)) capsNestCard

/-- THE TIED CARD OF 'pledgelaw16.CapsFree'. -/
def capsFreeCard : Claim7 := { stood := { row := capsFreeRow, standIns := [], harness := (true, "de1d799e66aee33474950ccb1ddbfb62c21fc003e103c6eca00f59b0d95119aa"), looks := true }, kinds := [], alts := [], laidByText := true, laidKinds := [.sentinel, .sentinel], laidTests := true, laidLooks := .later }
def CapsFreeCardSaid : Prop := Claim7.holds Tryd.pinned (.plain (OpenSpec.ofChange capsFreeSpec)) capsFreeCard

/-- THE SECOND FORM's CARD OF 'pledgelaw16.CapsPlay'. -/
def capsPlayUptoCard : Claim7 := { stood := { row := capsPlayUptoRow, standIns := [], harness := (true, "de1d799e66aee33474950ccb1ddbfb62c21fc003e103c6eca00f59b0d95119aa"), looks := true }, kinds := [], alts := [], laidByText := true, laidKinds := [.sentinel, .sentinel, .sentinel, .sentinel, .sentinel, .sentinel, .sentinel, .sentinel, .sentinel, .sentinel, .sentinel, .sentinel, .sentinel, .sentinel, .sentinel, .sentinel, .sentinel, .sentinel, .sentinel, .sentinel, .sentinel], laidTests := true, laidLooks := .later }
def CapsPlayUptoCardSaid : Prop := Claim7.holds Tryd.pinned (.plain (OpenSpec.upto capsPlaySpec)) capsPlayUptoCard

/-- THE SECOND FORM's CARD OF 'pledgelaw16.CapsOrder'. -/
def capsOrderUptoCard : Claim7 := { stood := { row := capsOrderUptoRow, standIns := [], harness := (true, "de1d799e66aee33474950ccb1ddbfb62c21fc003e103c6eca00f59b0d95119aa"), looks := true }, kinds := [], alts := [], laidByText := true, laidKinds := [.sentinel, .sentinel], laidTests := true, laidLooks := .later }
def CapsOrderUptoCardSaid : Prop := Claim7.holds Tryd.pinned (.plain (OpenSpec.upto capsOrderSpec)) capsOrderUptoCard

/-- THE SECOND FORM's CARD OF 'pledgelaw16.CapsMost'. -/
def capsMostUptoCard : Claim7 := { stood := { row := capsMostUptoRow, standIns := [], harness := (true, "de1d799e66aee33474950ccb1ddbfb62c21fc003e103c6eca00f59b0d95119aa"), looks := true }, kinds := [], alts := [], laidByText := true, laidKinds := [.sentinel, .sentinel], laidTests := true, laidLooks := .later }
def CapsMostUptoCardSaid : Prop := Claim7.holds Tryd.pinned (.plain (OpenSpec.upto capsMostSpec)) capsMostUptoCard

/-- THE SECOND FORM's CARD OF 'pledgelaw16.CapsOver'. -/
def capsOverUptoCard : Claim7 := { stood := { row := capsOverUptoRow, standIns := [], harness := (true, "de1d799e66aee33474950ccb1ddbfb62c21fc003e103c6eca00f59b0d95119aa"), looks := true }, kinds := [], alts := [], laidByText := true, laidKinds := [.sentinel, .sentinel, .sentinel, .sentinel, .sentinel, .sentinel, .sentinel, .sentinel, .sentinel, .sentinel, .sentinel, .sentinel, .sentinel, .sentinel, .sentinel, .sentinel, .sentinel, .sentinel, .sentinel, .sentinel, .sentinel], laidTests := true, laidLooks := .later }
def CapsOverUptoCardSaid : Prop := Claim7.holds Tryd.pinned (.plain (OpenSpec.upto capsOverSpec)) capsOverUptoCard

/-- THE SECOND FORM's CARD OF 'pledgelaw16.CapsNest'. -/
def capsNestUptoCard : Claim7 := { stood := { row := capsNestUptoRow, standIns := [], harness := (true, "de1d799e66aee33474950ccb1ddbfb62c21fc003e103c6eca00f59b0d95119aa"), looks := true }, kinds := [], alts := [], laidByText := true, laidKinds := [.sentinel, .sentinel], laidTests := true, laidLooks := .later }
def CapsNestUptoCardSaid : Prop := Claim7.holds Tryd.pinned (.plain (OpenSpec.upto capsNestSpec)) capsNestUptoCard

/-- THE SECOND FORM's CARD OF 'pledgelaw16.CapsFree'. -/
def capsFreeUptoCard : Claim7 := { stood := { row := capsFreeUptoRow, standIns := [], harness := (true, "de1d799e66aee33474950ccb1ddbfb62c21fc003e103c6eca00f59b0d95119aa"), looks := true }, kinds := [], alts := [], laidByText := true, laidKinds := [.sentinel, .sentinel], laidTests := true, laidLooks := .later }
def CapsFreeUptoCardSaid : Prop := Claim7.holds Tryd.pinned (.plain (OpenSpec.upto capsFreeSpec)) capsFreeUptoCard
end Rows
end Go.Proofs.YtghkmagofadkfaaDoor
