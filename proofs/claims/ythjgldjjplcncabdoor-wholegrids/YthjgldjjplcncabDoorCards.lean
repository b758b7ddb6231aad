/-
  DERIVED. GIVEN WITH THE SEED: THE CARDS: each row of YthjgldjjplcncabDoorRows.lean that lists a variable, with what it lists TIED to the program's text (the seventh form; the later family's looks); each row that meets fmt, with fmt's text TOLD by the authors' own Lean function (tested against real Go, not proved from fmt's source: count such statements apart). THE CARD IS WHAT COUNTS. Prove the row's statement (the work); the ties are given (YthjgldjjplcncabDoorTie.lean); close each card by the builder's one call (the guide's Derived/Test/ToyasCard.lean, 'card_holds'). Laid BY PROGRAM, IN A SANDBOX (cutbox-door.mjs). By AI agents, Wed Nov 11 2026. No macro, syntax, notation, axiom, sorry.
-/
import Derived.Test.YthjgldjjplcncabDoorRows
import GoSem.ClaimSeven
namespace Go.Proofs.YthjgldjjplcncabDoor
namespace Rows

/-- THE TIED CARD OF 'rebustop.WholeGrids'. -/
def wholeGridsCard : Claim7 := { stood := { row := wholeGridsRow, standIns := [], harness := (true, "35dde4f61a1f6ae60858b9e0803a337b0fe813ab3e9e2acc245ce238f8326907"), looks := false }, kinds := [], alts := [], laidByText := true, laidKinds := [.data, .data, .pinned], laidTests := true, laidLooks := .later }
def WholeGridsCardSaid : Prop := Claim7.holds Tryd.pinned (.plain (OpenSpec.ofChange wholeGridsSpec)) wholeGridsCard

/-- THE TIED CARD OF 'rebustop.WholeSymmetric'. -/
def wholeSymmetricCard : Claim7 := { stood := { row := wholeSymmetricRow, standIns := [], harness := (true, "35dde4f61a1f6ae60858b9e0803a337b0fe813ab3e9e2acc245ce238f8326907"), looks := false }, kinds := [], alts := [], laidByText := true, laidKinds := [.data], laidTests := true, laidLooks := .later }
def WholeSymmetricCardSaid : Prop := Claim7.holds Tryd.pinned (.plain (OpenSpec.ofChange wholeSymmetricSpec)) wholeSymmetricCard

/-- THE SECOND FORM's CARD OF 'rebustop.WholeGrids'. -/
def wholeGridsUptoCard : Claim7 := { stood := { row := wholeGridsUptoRow, standIns := [], harness := (true, "35dde4f61a1f6ae60858b9e0803a337b0fe813ab3e9e2acc245ce238f8326907"), looks := false }, kinds := [], alts := [], laidByText := true, laidKinds := [.data, .data, .pinned], laidTests := true, laidLooks := .later }
def WholeGridsUptoCardSaid : Prop := Claim7.holds Tryd.pinned (.plain (OpenSpec.upto wholeGridsSpec)) wholeGridsUptoCard

/-- THE SECOND FORM's CARD OF 'rebustop.WholeSymmetric'. -/
def wholeSymmetricUptoCard : Claim7 := { stood := { row := wholeSymmetricUptoRow, standIns := [], harness := (true, "35dde4f61a1f6ae60858b9e0803a337b0fe813ab3e9e2acc245ce238f8326907"), looks := false }, kinds := [], alts := [], laidByText := true, laidKinds := [.data], laidTests := true, laidLooks := .later }
def WholeSymmetricUptoCardSaid : Prop := Claim7.holds Tryd.pinned (.plain (OpenSpec.upto wholeSymmetricSpec)) wholeSymmetricUptoCard
end Rows
end Go.Proofs.YthjgldjjplcncabDoor
