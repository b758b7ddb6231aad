/-
  DERIVED. GIVEN WITH THE SEED: THE CARDS: each row of YtkjhjkpnkcnbgaaDoorRows.lean that lists a variable, with what it lists TIED to the program's text (the seventh form; the later family's looks); each row that meets fmt, with fmt's text TOLD by the authors' own Lean function (tested against real Go, not proved from fmt's source: count such statements apart). THE CARD IS WHAT COUNTS. Prove the row's statement (the work); the ties are given (YtkjhjkpnkcnbgaaDoorTie.lean); close each card by the builder's one call (the guide's Derived/Test/ToyasCard.lean, 'card_holds'). Laid BY PROGRAM, IN A SANDBOX (cutbox-door.mjs). By AI agents, Wed Nov 11 2026. No macro, syntax, notation, axiom, sorry.
-/
import Derived.Test.YtkjhjkpnkcnbgaaDoorRows
import GoSem.ClaimSeven
namespace Go.Proofs.YtkjhjkpnkcnbgaaDoor
namespace Rows

/-- THE TIED CARD OF 'rebuslaw01.UtfExact'. -/
def utfExactCard : Claim7 := { stood := { row := utfExactRow, standIns := [], harness := (true, "f727ccc9f323027708258c2ccc3b57a24b00c6a88a80d91c56d3f36026b2a595"), looks := false }, kinds := [], alts := [], laidByText := true, laidKinds := [.data, .pinned], laidTests := true, laidLooks := .later }
def UtfExactCardSaid : Prop := Claim7.holds Tryd.pinned (.plain (OpenSpec.ofChange utfExactSpec)) utfExactCard

/-- THE TIED CARD OF 'rebuslaw01.UtfEncodes'. -/
def utfEncodesCard : Claim7 := { stood := { row := utfEncodesRow, standIns := [], harness := (true, "f727ccc9f323027708258c2ccc3b57a24b00c6a88a80d91c56d3f36026b2a595"), looks := false }, kinds := [], alts := [], laidByText := true, laidKinds := [.data, .pinned], laidTests := true, laidLooks := .later }
def UtfEncodesCardSaid : Prop := Claim7.holds Tryd.pinned (.plain (OpenSpec.ofChange utfEncodesSpec)) utfEncodesCard

/-- THE TIED CARD OF 'rebuslaw01.UtfRanges'. -/
def utfRangesCard : Claim7 := { stood := { row := utfRangesRow, standIns := [], harness := (true, "f727ccc9f323027708258c2ccc3b57a24b00c6a88a80d91c56d3f36026b2a595"), looks := false }, kinds := [], alts := [], laidByText := true, laidKinds := [.data, .pinned], laidTests := true, laidLooks := .later }
def UtfRangesCardSaid : Prop := Claim7.holds Tryd.pinned (.plain (OpenSpec.ofChange utfRangesSpec)) utfRangesCard

/-- THE TIED CARD OF 'rebuslaw01.UtfStops'. -/
def utfStopsCard : Claim7 := { stood := { row := utfStopsRow, standIns := [], harness := (true, "f727ccc9f323027708258c2ccc3b57a24b00c6a88a80d91c56d3f36026b2a595"), looks := false }, kinds := [], alts := [], laidByText := true, laidKinds := [.data, .pinned], laidTests := true, laidLooks := .later }
def UtfStopsCardSaid : Prop := Claim7.holds Tryd.pinned (.plain (OpenSpec.ofChange utfStopsSpec)) utfStopsCard

/-- THE TIED CARD OF 'rebuslaw01.UtfFixes'. -/
def utfFixesCard : Claim7 := { stood := { row := utfFixesRow, standIns := [], harness := (true, "f727ccc9f323027708258c2ccc3b57a24b00c6a88a80d91c56d3f36026b2a595"), looks := false }, kinds := [], alts := [], laidByText := true, laidKinds := [.data, .pinned], laidTests := true, laidLooks := .later }
def UtfFixesCardSaid : Prop := Claim7.holds Tryd.pinned (.plain (OpenSpec.ofChange utfFixesSpec)) utfFixesCard

/-- THE TIED CARD OF 'rebuslaw01.UtfCuts'. -/
def utfCutsCard : Claim7 := { stood := { row := utfCutsRow, standIns := [], harness := (true, "f727ccc9f323027708258c2ccc3b57a24b00c6a88a80d91c56d3f36026b2a595"), looks := false }, kinds := [], alts := [], laidByText := true, laidKinds := [.data, .pinned], laidTests := true, laidLooks := .later }
def UtfCutsCardSaid : Prop := Claim7.holds Tryd.pinned (.plain (OpenSpec.ofChange utfCutsSpec)) utfCutsCard

/-- THE SECOND FORM's CARD OF 'rebuslaw01.UtfExact'. -/
def utfExactUptoCard : Claim7 := { stood := { row := utfExactUptoRow, standIns := [], harness := (true, "f727ccc9f323027708258c2ccc3b57a24b00c6a88a80d91c56d3f36026b2a595"), looks := false }, kinds := [], alts := [], laidByText := true, laidKinds := [.data, .pinned], laidTests := true, laidLooks := .later }
def UtfExactUptoCardSaid : Prop := Claim7.holds Tryd.pinned (.plain (OpenSpec.upto utfExactSpec)) utfExactUptoCard

/-- THE SECOND FORM's CARD OF 'rebuslaw01.UtfEncodes'. -/
def utfEncodesUptoCard : Claim7 := { stood := { row := utfEncodesUptoRow, standIns := [], harness := (true, "f727ccc9f323027708258c2ccc3b57a24b00c6a88a80d91c56d3f36026b2a595"), looks := false }, kinds := [], alts := [], laidByText := true, laidKinds := [.data, .pinned], laidTests := true, laidLooks := .later }
def UtfEncodesUptoCardSaid : Prop := Claim7.holds Tryd.pinned (.plain (OpenSpec.upto utfEncodesSpec)) utfEncodesUptoCard

/-- THE SECOND FORM's CARD OF 'rebuslaw01.UtfRanges'. -/
def utfRangesUptoCard : Claim7 := { stood := { row := utfRangesUptoRow, standIns := [], harness := (true, "f727ccc9f323027708258c2ccc3b57a24b00c6a88a80d91c56d3f36026b2a595"), looks := false }, kinds := [], alts := [], laidByText := true, laidKinds := [.data, .pinned], laidTests := true, laidLooks := .later }
def UtfRangesUptoCardSaid : Prop := Claim7.holds Tryd.pinned (.plain (OpenSpec.upto utfRangesSpec)) utfRangesUptoCard

/-- THE SECOND FORM's CARD OF 'rebuslaw01.UtfStops'. -/
def utfStopsUptoCard : Claim7 := { stood := { row := utfStopsUptoRow, standIns := [], harness := (true, "f727ccc9f323027708258c2ccc3b57a24b00c6a88a80d91c56d3f36026b2a595"), looks := false }, kinds := [], alts := [], laidByText := true, laidKinds := [.data, .pinned], laidTests := true, laidLooks := .later }
def UtfStopsUptoCardSaid : Prop := Claim7.holds Tryd.pinned (.plain (OpenSpec.upto utfStopsSpec)) utfStopsUptoCard

/-- THE SECOND FORM's CARD OF 'rebuslaw01.UtfFixes'. -/
def utfFixesUptoCard : Claim7 := { stood := { row := utfFixesUptoRow, standIns := [], harness := (true, "f727ccc9f323027708258c2ccc3b57a24b00c6a88a80d91c56d3f36026b2a595"), looks := false }, kinds := [], alts := [], laidByText := true, laidKinds := [.data, .pinned], laidTests := true, laidLooks := .later }
def UtfFixesUptoCardSaid : Prop := Claim7.holds Tryd.pinned (.plain (OpenSpec.upto utfFixesSpec)) utfFixesUptoCard

/-- THE SECOND FORM's CARD OF 'rebuslaw01.UtfCuts'. -/
def utfCutsUptoCard : Claim7 := { stood := { row := utfCutsUptoRow, standIns := [], harness := (true, "f727ccc9f323027708258c2ccc3b57a24b00c6a88a80d91c56d3f36026b2a595"), looks := false }, kinds := [], alts := [], laidByText := true, laidKinds := [.data, .pinned], laidTests := true, laidLooks := .later }
def UtfCutsUptoCardSaid : Prop := Claim7.holds Tryd.pinned (.plain (OpenSpec.upto utfCutsSpec)) utfCutsUptoCard
end Rows
end Go.Proofs.YtkjhjkpnkcnbgaaDoor
