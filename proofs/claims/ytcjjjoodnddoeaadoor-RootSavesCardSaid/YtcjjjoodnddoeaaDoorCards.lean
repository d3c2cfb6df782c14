/-
  DERIVED. GIVEN WITH THE SEED: THE CARDS: each row of YtcjjjoodnddoeaaDoorRows.lean that lists a variable, with what it lists TIED to the program's text (the seventh form; the later family's looks); each row that meets fmt, with fmt's text TOLD by the authors' own Lean function (tested against real Go, not proved from fmt's source: count such statements apart). THE CARD IS WHAT COUNTS. Prove the row's statement (the work); the ties are given (YtcjjjoodnddoeaaDoorTie.lean); close each card by the builder's one call (the guide's Derived/Test/ToyasCard.lean, 'card_holds'). Laid BY PROGRAM, IN A SANDBOX (cutbox-door.mjs). By AI agents, Wed Nov 11 2026. No macro, syntax, notation, axiom, sorry.
-/
import Derived.Test.YtcjjjoodnddoeaaDoorRows
import GoSem.ClaimSeven
namespace Go.Proofs.YtcjjjoodnddoeaaDoor
namespace Rows

/-- THE TIED CARD OF 'pledgelaw6.RootBytes'. -/
def rootBytesCard : Claim7 := { stood := { row := rootBytesRow, standIns := [], harness := (true, "25618bc33ae5c6e8284b28c2cbb7e2eb0e9abb24cc0501f2a5af1d880ce35c78"), looks := true }, kinds := [], alts := [], laidByText := true, laidKinds := [.sentinel, .sentinel, .sentinel, .sentinel, .sentinel, .sentinel, .sentinel, .sentinel, .sentinel, .sentinel, .sentinel, .sentinel, .sentinel, .sentinel, .sentinel, .sentinel, .sentinel, .sentinel, .sentinel, .sentinel, .sentinel], laidTests := true, laidLooks := .later }
def RootBytesCardSaid : Prop := Claim7.holds Tryd.pinned (.plain (OpenSpec.ofChange rootBytesSpec)) rootBytesCard

/-- THE TIED CARD OF 'pledgelaw6.RootTears'. -/
def rootTearsCard : Claim7 := { stood := { row := rootTearsRow, standIns := [], harness := (true, "25618bc33ae5c6e8284b28c2cbb7e2eb0e9abb24cc0501f2a5af1d880ce35c78"), looks := true }, kinds := [], alts := [], laidByText := true, laidKinds := [.sentinel, .sentinel, .sentinel, .sentinel, .sentinel], laidTests := true, laidLooks := .later }
def RootTearsCardSaid : Prop := Claim7.holds Tryd.pinned (.plain (OpenSpec.ofChange rootTearsSpec)) rootTearsCard

/-- THE TIED CARD OF 'pledgelaw6.RootSaves'. -/
def rootSavesCard : Claim7 := { stood := { row := rootSavesRow, standIns := [], harness := (true, "25618bc33ae5c6e8284b28c2cbb7e2eb0e9abb24cc0501f2a5af1d880ce35c78"), looks := true }, kinds := [], alts := [], laidByText := true, laidKinds := [.sentinel, .sentinel, .sentinel, .sentinel, .sentinel, .sentinel, .sentinel, .sentinel, .sentinel, .sentinel, .sentinel, .sentinel, .sentinel, .sentinel, .sentinel, .sentinel, .sentinel, .sentinel, .sentinel, .sentinel, .sentinel], laidTests := true, laidLooks := .later }
def RootSavesCardSaid : Prop := Claim7.holds Tryd.pinned (.plain (OpenSpec.ofChange rootSavesSpec)) rootSavesCard

/-- THE TIED CARD OF 'pledgelaw6.RootGreater'. -/
def rootGreaterCard : Claim7 := { stood := { row := rootGreaterRow, standIns := [], harness := (true, "25618bc33ae5c6e8284b28c2cbb7e2eb0e9abb24cc0501f2a5af1d880ce35c78"), looks := true }, kinds := [], alts := [], laidByText := true, laidKinds := [.sentinel, .sentinel, .sentinel, .sentinel, .sentinel, .sentinel, .sentinel, .sentinel, .sentinel, .sentinel, .sentinel, .sentinel, .sentinel, .sentinel, .sentinel, .sentinel, .sentinel, .sentinel, .sentinel, .sentinel, .sentinel], laidTests := true, laidLooks := .later }
def RootGreaterCardSaid : Prop := Claim7.holds Tryd.pinned (.plain (OpenSpec.ofChange rootGreaterSpec)) rootGreaterCard

/-- THE SECOND FORM's CARD OF 'pledgelaw6.RootBytes'. -/
def rootBytesUptoCard : Claim7 := { stood := { row := rootBytesUptoRow, standIns := [], harness := (true, "25618bc33ae5c6e8284b28c2cbb7e2eb0e9abb24cc0501f2a5af1d880ce35c78"), looks := true }, kinds := [], alts := [], laidByText := true, laidKinds := [.sentinel, .sentinel, .sentinel, .sentinel, .sentinel, .sentinel, .sentinel, .sentinel, .sentinel, .sentinel, .sentinel, .sentinel, .sentinel, .sentinel, .sentinel, .sentinel, .sentinel, .sentinel, .sentinel, .sentinel, .sentinel], laidTests := true, laidLooks := .later }
def RootBytesUptoCardSaid : Prop := Claim7.holds Tryd.pinned (.plain (OpenSpec.upto rootBytesSpec)) rootBytesUptoCard

/-- THE SECOND FORM's CARD OF 'pledgelaw6.RootTears'. -/
def rootTearsUptoCard : Claim7 := { stood := { row := rootTearsUptoRow, standIns := [], harness := (true, "25618bc33ae5c6e8284b28c2cbb7e2eb0e9abb24cc0501f2a5af1d880ce35c78"), looks := true }, kinds := [], alts := [], laidByText := true, laidKinds := [.sentinel, .sentinel, .sentinel, .sentinel, .sentinel], laidTests := true, laidLooks := .later }
def RootTearsUptoCardSaid : Prop := Claim7.holds Tryd.pinned (.plain (OpenSpec.upto rootTearsSpec)) rootTearsUptoCard

/-- THE SECOND FORM's CARD OF 'pledgelaw6.RootSaves'. -/
def rootSavesUptoCard : Claim7 := { stood := { row := rootSavesUptoRow, standIns := [], harness := (true, "25618bc33ae5c6e8284b28c2cbb7e2eb0e9abb24cc0501f2a5af1d880ce35c78"), looks := true }, kinds := [], alts := [], laidByText := true, laidKinds := [.sentinel, .sentinel, .sentinel, .sentinel, .sentinel, .sentinel, .sentinel, .sentinel, .sentinel, .sentinel, .sentinel, .sentinel, .sentinel, .sentinel, .sentinel, .sentinel, .sentinel, .sentinel, .sentinel, .sentinel, .sentinel], laidTests := true, laidLooks := .later }
def RootSavesUptoCardSaid : Prop := Claim7.holds Tryd.pinned (.plain (OpenSpec.upto rootSavesSpec)) rootSavesUptoCard

/-- THE SECOND FORM's CARD OF 'pledgelaw6.RootGreater'. -/
def rootGreaterUptoCard : Claim7 := { stood := { row := rootGreaterUptoRow, standIns := [], harness := (true, "25618bc33ae5c6e8284b28c2cbb7e2eb0e9abb24cc0501f2a5af1d880ce35c78"), looks := true }, kinds := [], alts := [], laidByText := true, laidKinds := [.sentinel, .sentinel, .sentinel, .sentinel, .sentinel, .sentinel, .sentinel, .sentinel, .sentinel, .sentinel, .sentinel, .sentinel, .sentinel, .sentinel, .sentinel, .sentinel, .sentinel, .sentinel, .sentinel, .sentinel, .sentinel], laidTests := true, laidLooks := .later }
def RootGreaterUptoCardSaid : Prop := Claim7.holds Tryd.pinned (.plain (OpenSpec.upto rootGreaterSpec)) rootGreaterUptoCard
end Rows
end Go.Proofs.YtcjjjoodnddoeaaDoor
