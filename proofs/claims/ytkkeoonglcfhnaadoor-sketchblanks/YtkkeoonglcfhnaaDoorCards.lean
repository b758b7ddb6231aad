/-
  DERIVED. GIVEN WITH THE SEED: THE CARDS: each row of YtkkeoonglcfhnaaDoorRows.lean that lists a variable, with what it lists TIED to the program's text (the seventh form; the later family's looks); each row that meets fmt, with fmt's text TOLD by the authors' own Lean function (tested against real Go, not proved from fmt's source: count such statements apart). THE CARD IS WHAT COUNTS. Prove the row's statement (the work); the ties are given (YtkkeoonglcfhnaaDoorTie.lean); close each card by the builder's one call (the guide's Derived/Test/ToyasCard.lean, 'card_holds'). Laid BY PROGRAM, IN A SANDBOX (cutbox-door.mjs). By AI agents, Wed Nov 11 2026. No macro, syntax, notation, axiom, sorry.
-/
import Derived.Test.YtkkeoonglcfhnaaDoorRows
import GoSem.ClaimSeven
namespace Go.Proofs.YtkkeoonglcfhnaaDoor
namespace Rows

/-- THE TIED CARD OF 'rebuslaw07.SlotsLists'. -/
def slotsListsCard : Claim7 := { stood := { row := slotsListsRow, standIns := [], harness := (true, "27adabd13585537780440c2799edc1f7467965813cbf11a530bc41a3a8f77787"), looks := false }, kinds := [], alts := [], laidByText := true, laidKinds := [.data, .data, .data, .data], laidTests := true, laidLooks := .later }
def SlotsListsCardSaid : Prop := Claim7.holds Tryd.pinned (.plain (OpenSpec.ofChange slotsListsSpec)) slotsListsCard

/-- THE TIED CARD OF 'rebuslaw08.SketchReads'. -/
def sketchReadsCard : Claim7 := { stood := { row := sketchReadsRow, standIns := [], harness := (true, "27adabd13585537780440c2799edc1f7467965813cbf11a530bc41a3a8f77787"), looks := false }, kinds := [], alts := [], laidByText := true, laidKinds := [.data, .data, .pinned], laidTests := true, laidLooks := .later }
def SketchReadsCardSaid : Prop := Claim7.holds Tryd.pinned (.plain (OpenSpec.ofChange sketchReadsSpec)) sketchReadsCard

/-- THE TIED CARD OF 'rebuslaw08.SketchWrites'. -/
def sketchWritesCard : Claim7 := { stood := { row := sketchWritesRow, standIns := [], harness := (true, "27adabd13585537780440c2799edc1f7467965813cbf11a530bc41a3a8f77787"), looks := false }, kinds := [], alts := [], laidByText := true, laidKinds := [.data, .data, .pinned], laidTests := true, laidLooks := .later }
def SketchWritesCardSaid : Prop := Claim7.holds Tryd.pinned (.plain (OpenSpec.ofChange sketchWritesSpec)) sketchWritesCard

/-- THE TIED CARD OF 'rebuslaw08.SketchCanon'. -/
def sketchCanonCard : Claim7 := { stood := { row := sketchCanonRow, standIns := [], harness := (true, "27adabd13585537780440c2799edc1f7467965813cbf11a530bc41a3a8f77787"), looks := false }, kinds := [], alts := [], laidByText := true, laidKinds := [.data, .data, .pinned], laidTests := true, laidLooks := .later }
def SketchCanonCardSaid : Prop := Claim7.holds Tryd.pinned (.plain (OpenSpec.ofChange sketchCanonSpec)) sketchCanonCard

/-- THE TIED CARD OF 'rebuslaw08.SketchBlanks'. -/
def sketchBlanksCard : Claim7 := { stood := { row := sketchBlanksRow, standIns := [], harness := (true, "27adabd13585537780440c2799edc1f7467965813cbf11a530bc41a3a8f77787"), looks := false }, kinds := [], alts := [], laidByText := true, laidKinds := [.data, .data, .pinned], laidTests := true, laidLooks := .later }
def SketchBlanksCardSaid : Prop := Claim7.holds Tryd.pinned (.plain (OpenSpec.ofChange sketchBlanksSpec)) sketchBlanksCard

/-- THE TIED CARD OF 'rebustop.WholeGrids'. -/
def wholeGridsCard : Claim7 := { stood := { row := wholeGridsRow, standIns := [], harness := (true, "27adabd13585537780440c2799edc1f7467965813cbf11a530bc41a3a8f77787"), looks := false }, kinds := [], alts := [], laidByText := true, laidKinds := [.data, .data, .pinned], laidTests := true, laidLooks := .later }
def WholeGridsCardSaid : Prop := Claim7.holds Tryd.pinned (.plain (OpenSpec.ofChange wholeGridsSpec)) wholeGridsCard

/-- THE SECOND FORM's CARD OF 'rebuslaw07.SlotsLists'. -/
def slotsListsUptoCard : Claim7 := { stood := { row := slotsListsUptoRow, standIns := [], harness := (true, "27adabd13585537780440c2799edc1f7467965813cbf11a530bc41a3a8f77787"), looks := false }, kinds := [], alts := [], laidByText := true, laidKinds := [.data, .data, .data, .data], laidTests := true, laidLooks := .later }
def SlotsListsUptoCardSaid : Prop := Claim7.holds Tryd.pinned (.plain (OpenSpec.upto slotsListsSpec)) slotsListsUptoCard

/-- THE SECOND FORM's CARD OF 'rebuslaw08.SketchReads'. -/
def sketchReadsUptoCard : Claim7 := { stood := { row := sketchReadsUptoRow, standIns := [], harness := (true, "27adabd13585537780440c2799edc1f7467965813cbf11a530bc41a3a8f77787"), looks := false }, kinds := [], alts := [], laidByText := true, laidKinds := [.data, .data, .pinned], laidTests := true, laidLooks := .later }
def SketchReadsUptoCardSaid : Prop := Claim7.holds Tryd.pinned (.plain (OpenSpec.upto sketchReadsSpec)) sketchReadsUptoCard

/-- THE SECOND FORM's CARD OF 'rebuslaw08.SketchWrites'. -/
def sketchWritesUptoCard : Claim7 := { stood := { row := sketchWritesUptoRow, standIns := [], harness := (true, "27adabd13585537780440c2799edc1f7467965813cbf11a530bc41a3a8f77787"), looks := false }, kinds := [], alts := [], laidByText := true, laidKinds := [.data, .data, .pinned], laidTests := true, laidLooks := .later }
def SketchWritesUptoCardSaid : Prop := Claim7.holds Tryd.pinned (.plain (OpenSpec.upto sketchWritesSpec)) sketchWritesUptoCard

/-- THE SECOND FORM's CARD OF 'rebuslaw08.SketchCanon'. -/
def sketchCanonUptoCard : Claim7 := { stood := { row := sketchCanonUptoRow, standIns := [], harness := (true, "27adabd13585537780440c2799edc1f7467965813cbf11a530bc41a3a8f77787"), looks := false }, kinds := [], alts := [], laidByText := true, laidKinds := [.data, .data, .pinned], laidTests := true, laidLooks := .later }
def SketchCanonUptoCardSaid : Prop := Claim7.holds Tryd.pinned (.plain (OpenSpec.upto sketchCanonSpec)) sketchCanonUptoCard

/-- THE SECOND FORM's CARD OF 'rebuslaw08.SketchBlanks'. -/
def sketchBlanksUptoCard : Claim7 := { stood := { row := sketchBlanksUptoRow, standIns := [], harness := (true, "27adabd13585537780440c2799edc1f7467965813cbf11a530bc41a3a8f77787"), looks := false }, kinds := [], alts := [], laidByText := true, laidKinds := [.data, .data, .pinned], laidTests := true, laidLooks := .later }
def SketchBlanksUptoCardSaid : Prop := Claim7.holds Tryd.pinned (.plain (OpenSpec.upto sketchBlanksSpec)) sketchBlanksUptoCard

/-- THE SECOND FORM's CARD OF 'rebustop.WholeGrids'. -/
def wholeGridsUptoCard : Claim7 := { stood := { row := wholeGridsUptoRow, standIns := [], harness := (true, "27adabd13585537780440c2799edc1f7467965813cbf11a530bc41a3a8f77787"), looks := false }, kinds := [], alts := [], laidByText := true, laidKinds := [.data, .data, .pinned], laidTests := true, laidLooks := .later }
def WholeGridsUptoCardSaid : Prop := Claim7.holds Tryd.pinned (.plain (OpenSpec.upto wholeGridsSpec)) wholeGridsUptoCard
end Rows
end Go.Proofs.YtkkeoonglcfhnaaDoor
