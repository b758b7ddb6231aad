/-
  DERIVED. GIVEN WITH THE SEED: THE CARDS: each row of YtgpnnnhhidbajaaDoorRows.lean that lists a variable, with what it lists TIED to the program's text (the seventh form; the later family's looks); each row that meets fmt, with fmt's text TOLD by the authors' own Lean function (tested against real Go, not proved from fmt's source: count such statements apart). THE CARD IS WHAT COUNTS. Prove the row's statement (the work); the ties are given (YtgpnnnhhidbajaaDoorTie.lean); close each card by the builder's one call (the guide's Derived/Test/ToyasCard.lean, 'card_holds'). Laid BY PROGRAM, IN A SANDBOX (cutbox-door.mjs). By AI agents, Wed Nov 11 2026. No macro, syntax, notation, axiom, sorry.
-/
import Derived.Test.YtgpnnnhhidbajaaDoorRows
import GoSem.ClaimSeven
namespace Go.Proofs.YtgpnnnhhidbajaaDoor
namespace Rows

/-- THE TIED CARD OF 'rebuslaw06.TurnGrids'. -/
def turnGridsCard : Claim7 := { stood := { row := turnGridsRow, standIns := [], harness := (true, "038147aebbacc85a153a0be00e20d83512aee01ca7abdc37887447dc510dd430"), looks := false }, kinds := [], alts := [], laidByText := true, laidKinds := [.data], laidTests := true, laidLooks := .later }
def TurnGridsCardSaid : Prop := Claim7.holds Tryd.pinned (.plain (OpenSpec.ofChange turnGridsSpec)) turnGridsCard

/-- THE TIED CARD OF 'rebuslaw06.TurnGroup'. -/
def turnGroupCard : Claim7 := { stood := { row := turnGroupRow, standIns := [], harness := (true, "038147aebbacc85a153a0be00e20d83512aee01ca7abdc37887447dc510dd430"), looks := false }, kinds := [], alts := [], laidByText := true, laidKinds := [.data], laidTests := true, laidLooks := .later }
def TurnGroupCardSaid : Prop := Claim7.holds Tryd.pinned (.plain (OpenSpec.ofChange turnGroupSpec)) turnGroupCard

/-- THE TIED CARD OF 'rebuslaw06.TurnSymmetries'. -/
def turnSymmetriesCard : Claim7 := { stood := { row := turnSymmetriesRow, standIns := [], harness := (true, "038147aebbacc85a153a0be00e20d83512aee01ca7abdc37887447dc510dd430"), looks := false }, kinds := [], alts := [], laidByText := true, laidKinds := [.data], laidTests := true, laidLooks := .later }
def TurnSymmetriesCardSaid : Prop := Claim7.holds Tryd.pinned (.plain (OpenSpec.ofChange turnSymmetriesSpec)) turnSymmetriesCard

/-- THE TIED CARD OF 'rebuslaw06.TurnCanon'. -/
def turnCanonCard : Claim7 := { stood := { row := turnCanonRow, standIns := [], harness := (true, "038147aebbacc85a153a0be00e20d83512aee01ca7abdc37887447dc510dd430"), looks := false }, kinds := [], alts := [], laidByText := true, laidKinds := [.data], laidTests := true, laidLooks := .later }
def TurnCanonCardSaid : Prop := Claim7.holds Tryd.pinned (.plain (OpenSpec.ofChange turnCanonSpec)) turnCanonCard

/-- THE SECOND FORM's CARD OF 'rebuslaw06.TurnGrids'. -/
def turnGridsUptoCard : Claim7 := { stood := { row := turnGridsUptoRow, standIns := [], harness := (true, "038147aebbacc85a153a0be00e20d83512aee01ca7abdc37887447dc510dd430"), looks := false }, kinds := [], alts := [], laidByText := true, laidKinds := [.data], laidTests := true, laidLooks := .later }
def TurnGridsUptoCardSaid : Prop := Claim7.holds Tryd.pinned (.plain (OpenSpec.upto turnGridsSpec)) turnGridsUptoCard

/-- THE SECOND FORM's CARD OF 'rebuslaw06.TurnGroup'. -/
def turnGroupUptoCard : Claim7 := { stood := { row := turnGroupUptoRow, standIns := [], harness := (true, "038147aebbacc85a153a0be00e20d83512aee01ca7abdc37887447dc510dd430"), looks := false }, kinds := [], alts := [], laidByText := true, laidKinds := [.data], laidTests := true, laidLooks := .later }
def TurnGroupUptoCardSaid : Prop := Claim7.holds Tryd.pinned (.plain (OpenSpec.upto turnGroupSpec)) turnGroupUptoCard

/-- THE SECOND FORM's CARD OF 'rebuslaw06.TurnSymmetries'. -/
def turnSymmetriesUptoCard : Claim7 := { stood := { row := turnSymmetriesUptoRow, standIns := [], harness := (true, "038147aebbacc85a153a0be00e20d83512aee01ca7abdc37887447dc510dd430"), looks := false }, kinds := [], alts := [], laidByText := true, laidKinds := [.data], laidTests := true, laidLooks := .later }
def TurnSymmetriesUptoCardSaid : Prop := Claim7.holds Tryd.pinned (.plain (OpenSpec.upto turnSymmetriesSpec)) turnSymmetriesUptoCard

/-- THE SECOND FORM's CARD OF 'rebuslaw06.TurnCanon'. -/
def turnCanonUptoCard : Claim7 := { stood := { row := turnCanonUptoRow, standIns := [], harness := (true, "038147aebbacc85a153a0be00e20d83512aee01ca7abdc37887447dc510dd430"), looks := false }, kinds := [], alts := [], laidByText := true, laidKinds := [.data], laidTests := true, laidLooks := .later }
def TurnCanonUptoCardSaid : Prop := Claim7.holds Tryd.pinned (.plain (OpenSpec.upto turnCanonSpec)) turnCanonUptoCard
end Rows
end Go.Proofs.YtgpnnnhhidbajaaDoor
