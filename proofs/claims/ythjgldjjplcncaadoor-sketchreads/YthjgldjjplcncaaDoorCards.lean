/-
  DERIVED. GIVEN WITH THE SEED: THE CARDS: each row of YthjgldjjplcncaaDoorRows.lean that lists a variable, with what it lists TIED to the program's text (the seventh form; the later family's looks); each row that meets fmt, with fmt's text TOLD by the authors' own Lean function (tested against real Go, not proved from fmt's source: count such statements apart). THE CARD IS WHAT COUNTS. Prove the row's statement (the work); the ties are given (YthjgldjjplcncaaDoorTie.lean); close each card by the builder's one call (the guide's Derived/Test/ToyasCard.lean, 'card_holds'). Laid BY PROGRAM, IN A SANDBOX (cutbox-door.mjs). By AI agents, Wed Nov 11 2026. No macro, syntax, notation, axiom, sorry.
-/
import Derived.Test.YthjgldjjplcncaaDoorRows
import GoSem.ClaimSeven
namespace Go.Proofs.YthjgldjjplcncaaDoor
namespace Rows

/-- THE TIED CARD OF 'rebuslaw08.SketchReads'. -/
def sketchReadsCard : Claim7 := { stood := { row := sketchReadsRow, standIns := [], harness := (true, "f804306d51b84db383cc4d97b5657e8ec33bab485f0b20711d9b6ffd2685d611"), looks := false }, kinds := [], alts := [], laidByText := true, laidKinds := [.data, .data, .pinned], laidTests := true, laidLooks := .later }
def SketchReadsCardSaid : Prop := Claim7.holds Tryd.pinned (.plain (OpenSpec.ofChange sketchReadsSpec)) sketchReadsCard

/-- THE SECOND FORM's CARD OF 'rebuslaw08.SketchReads'. -/
def sketchReadsUptoCard : Claim7 := { stood := { row := sketchReadsUptoRow, standIns := [], harness := (true, "f804306d51b84db383cc4d97b5657e8ec33bab485f0b20711d9b6ffd2685d611"), looks := false }, kinds := [], alts := [], laidByText := true, laidKinds := [.data, .data, .pinned], laidTests := true, laidLooks := .later }
def SketchReadsUptoCardSaid : Prop := Claim7.holds Tryd.pinned (.plain (OpenSpec.upto sketchReadsSpec)) sketchReadsUptoCard
end Rows
end Go.Proofs.YthjgldjjplcncaaDoor
