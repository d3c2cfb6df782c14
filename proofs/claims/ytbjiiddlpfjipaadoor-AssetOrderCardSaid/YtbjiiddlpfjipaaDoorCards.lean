/-
  DERIVED. GIVEN WITH THE SEED: THE CARDS: each row of YtbjiiddlpfjipaaDoorRows.lean that lists a variable, with what it lists TIED to the program's text (the seventh form; the later family's looks); each row that meets fmt, with fmt's text TOLD by the authors' own Lean function (tested against real Go, not proved from fmt's source: count such statements apart). THE CARD IS WHAT COUNTS. Prove the row's statement (the work); the ties are given (YtbjiiddlpfjipaaDoorTie.lean); close each card by the builder's one call (the guide's Derived/Test/ToyasCard.lean, 'card_holds'). Laid BY PROGRAM, IN A SANDBOX (cutbox-door.mjs). By AI agents, Wed Nov 11 2026. No macro, syntax, notation, axiom, sorry.
-/
import Derived.Test.YtbjiiddlpfjipaaDoorRows
import GoSem.ClaimSeven
namespace Go.Proofs.YtbjiiddlpfjipaaDoor
namespace Rows

/-- THE TIED CARD OF 'pledgelaw10.AssetPlays'. -/
def assetPlaysCard : Claim7 := { stood := { row := assetPlaysRow, standIns := [], harness := (true, "9fa0052127b68531bda195dda44bb5e789c1847d6e28fed7f2efb5cc199104bc"), looks := true }, kinds := [], alts := [], laidByText := true, laidKinds := [.sentinel, .sentinel, .sentinel, .sentinel, .sentinel, .sentinel, .sentinel, .sentinel, .sentinel, .sentinel, .sentinel, .sentinel, .sentinel, .sentinel, .sentinel, .sentinel, .sentinel, .sentinel, .sentinel, .sentinel, .sentinel], laidTests := true, laidLooks := .later }
def AssetPlaysCardSaid : Prop := Claim7.holds Tryd.pinned (.plain (OpenSpec.ofChange assetPlaysSpec)) assetPlaysCard

/-- THE TIED CARD OF 'pledgelaw10.AssetOrder'. -/
def assetOrderCard : Claim7 := { stood := { row := assetOrderRow, standIns := [], harness := (true, "9fa0052127b68531bda195dda44bb5e789c1847d6e28fed7f2efb5cc199104bc"), looks := true }, kinds := [], alts := [], laidByText := true, laidKinds := [.sentinel, .sentinel, .sentinel, .sentinel, .sentinel, .sentinel, .sentinel, .sentinel, .sentinel, .sentinel, .sentinel, .sentinel, .sentinel, .sentinel, .sentinel, .sentinel, .sentinel, .sentinel, .sentinel, .sentinel, .sentinel], laidTests := true, laidLooks := .later }
def AssetOrderCardSaid : Prop := Claim7.holds Tryd.pinned (.plain (OpenSpec.ofChange assetOrderSpec)) assetOrderCard

/-- THE TIED CARD OF 'pledgelaw10.AssetEnds'. -/
def assetEndsCard : Claim7 := { stood := { row := assetEndsRow, standIns := [], harness := (true, "9fa0052127b68531bda195dda44bb5e789c1847d6e28fed7f2efb5cc199104bc"), looks := true }, kinds := [], alts := [], laidByText := true, laidKinds := [.sentinel, .sentinel, .sentinel, .sentinel, .sentinel, .sentinel, .sentinel, .sentinel, .sentinel, .sentinel, .sentinel, .sentinel, .sentinel, .sentinel, .sentinel, .sentinel, .sentinel, .sentinel, .sentinel, .sentinel, .sentinel], laidTests := true, laidLooks := .later }
def AssetEndsCardSaid : Prop := Claim7.holds Tryd.pinned (.plain (OpenSpec.ofChange assetEndsSpec)) assetEndsCard

/-- THE TIED CARD OF 'pledgelaw10.AssetBounds'. -/
def assetBoundsCard : Claim7 := { stood := { row := assetBoundsRow, standIns := [], harness := (true, "9fa0052127b68531bda195dda44bb5e789c1847d6e28fed7f2efb5cc199104bc"), looks := true }, kinds := [], alts := [], laidByText := true, laidKinds := [.sentinel, .sentinel, .sentinel, .sentinel, .sentinel, .sentinel, .sentinel, .sentinel, .sentinel, .sentinel, .sentinel, .sentinel, .sentinel, .sentinel, .sentinel, .sentinel, .sentinel, .sentinel, .sentinel, .sentinel, .sentinel], laidTests := true, laidLooks := .later }
def AssetBoundsCardSaid : Prop := Claim7.holds Tryd.pinned (.plain (OpenSpec.ofChange assetBoundsSpec)) assetBoundsCard

/-- THE SECOND FORM's CARD OF 'pledgelaw10.AssetPlays'. -/
def assetPlaysUptoCard : Claim7 := { stood := { row := assetPlaysUptoRow, standIns := [], harness := (true, "9fa0052127b68531bda195dda44bb5e789c1847d6e28fed7f2efb5cc199104bc"), looks := true }, kinds := [], alts := [], laidByText := true, laidKinds := [.sentinel, .sentinel, .sentinel, .sentinel, .sentinel, .sentinel, .sentinel, .sentinel, .sentinel, .sentinel, .sentinel, .sentinel, .sentinel, .sentinel, .sentinel, .sentinel, .sentinel, .sentinel, .sentinel, .sentinel, .sentinel], laidTests := true, laidLooks := .later }
def AssetPlaysUptoCardSaid : Prop := Claim7.holds Tryd.pinned (.plain (OpenSpec.upto assetPlaysSpec)) assetPlaysUptoCard

/-- THE SECOND FORM's CARD OF 'pledgelaw10.AssetOrder'. -/
def assetOrderUptoCard : Claim7 := { stood := { row := assetOrderUptoRow, standIns := [], harness := (true, "9fa0052127b68531bda195dda44bb5e789c1847d6e28fed7f2efb5cc199104bc"), looks := true }, kinds := [], alts := [], laidByText := true, laidKinds := [.sentinel, .sentinel, .sentinel, .sentinel, .sentinel, .sentinel, .sentinel, .sentinel, .sentinel, .sentinel, .sentinel, .sentinel, .sentinel, .sentinel, .sentinel, .sentinel, .sentinel, .sentinel, .sentinel, .sentinel, .sentinel], laidTests := true, laidLooks := .later }
def AssetOrderUptoCardSaid : Prop := Claim7.holds Tryd.pinned (.plain (OpenSpec.upto assetOrderSpec)) assetOrderUptoCard

/-- THE SECOND FORM's CARD OF 'pledgelaw10.AssetEnds'. -/
def assetEndsUptoCard : Claim7 := { stood := { row := assetEndsUptoRow, standIns := [], harness := (true, "9fa0052127b68531bda195dda44bb5e789c1847d6e28fed7f2efb5cc199104bc"), looks := true }, kinds := [], alts := [], laidByText := true, laidKinds := [.sentinel, .sentinel, .sentinel, .sentinel, .sentinel, .sentinel, .sentinel, .sentinel, .sentinel, .sentinel, .sentinel, .sentinel, .sentinel, .sentinel, .sentinel, .sentinel, .sentinel, .sentinel, .sentinel, .sentinel, .sentinel], laidTests := true, laidLooks := .later }
def AssetEndsUptoCardSaid : Prop := Claim7.holds Tryd.pinned (.plain (OpenSpec.upto assetEndsSpec)) assetEndsUptoCard

/-- THE SECOND FORM's CARD OF 'pledgelaw10.AssetBounds'. -/
def assetBoundsUptoCard : Claim7 := { stood := { row := assetBoundsUptoRow, standIns := [], harness := (true, "9fa0052127b68531bda195dda44bb5e789c1847d6e28fed7f2efb5cc199104bc"), looks := true }, kinds := [], alts := [], laidByText := true, laidKinds := [.sentinel, .sentinel, .sentinel, .sentinel, .sentinel, .sentinel, .sentinel, .sentinel, .sentinel, .sentinel, .sentinel, .sentinel, .sentinel, .sentinel, .sentinel, .sentinel, .sentinel, .sentinel, .sentinel, .sentinel, .sentinel], laidTests := true, laidLooks := .later }
def AssetBoundsUptoCardSaid : Prop := Claim7.holds Tryd.pinned (.plain (OpenSpec.upto assetBoundsSpec)) assetBoundsUptoCard
end Rows
end Go.Proofs.YtbjiiddlpfjipaaDoor
