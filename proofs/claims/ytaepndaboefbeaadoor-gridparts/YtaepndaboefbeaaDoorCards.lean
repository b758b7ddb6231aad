/-
  DERIVED. GIVEN WITH THE SEED: THE CARDS: each row of YtaepndaboefbeaaDoorRows.lean that lists a variable, with what it lists TIED to the program's text (the seventh form; the later family's looks); each row that meets fmt, with fmt's text TOLD by the authors' own Lean function (tested against real Go, not proved from fmt's source: count such statements apart). THE CARD IS WHAT COUNTS. Prove the row's statement (the work); the ties are given (YtaepndaboefbeaaDoorTie.lean); close each card by the builder's one call (the guide's Derived/Test/ToyasCard.lean, 'card_holds'). Laid BY PROGRAM, IN A SANDBOX (cutbox-door.mjs). By AI agents, Wed Nov 11 2026. No macro, syntax, notation, axiom, sorry.
-/
import Derived.Test.YtaepndaboefbeaaDoorRows
import GoSem.ClaimSeven
namespace Go.Proofs.YtaepndaboefbeaaDoor
namespace Rows

/-- THE TIED CARD OF 'rebuslaw05.GridChecks'. -/
def gridChecksCard : Claim7 := { stood := { row := gridChecksRow, standIns := [], harness := (true, "f900df84172698af3b2faf82acf7772832210a1b8644d7f9b1c84bf0499fda81"), looks := false }, kinds := [], alts := [], laidByText := true, laidKinds := [.data], laidTests := true, laidLooks := .later }
def GridChecksCardSaid : Prop := Claim7.holds Tryd.pinned (.plain (OpenSpec.ofChange gridChecksSpec)) gridChecksCard

/-- THE TIED CARD OF 'rebuslaw05.GridSteps'. -/
def gridStepsCard : Claim7 := { stood := { row := gridStepsRow, standIns := [], harness := (true, "f900df84172698af3b2faf82acf7772832210a1b8644d7f9b1c84bf0499fda81"), looks := false }, kinds := [], alts := [], laidByText := true, laidKinds := [.data], laidTests := true, laidLooks := .later }
def GridStepsCardSaid : Prop := Claim7.holds Tryd.pinned (.plain (OpenSpec.ofChange gridStepsSpec)) gridStepsCard

/-- THE TIED CARD OF 'rebuslaw05.GridParts'. -/
def gridPartsCard : Claim7 := { stood := { row := gridPartsRow, standIns := [], harness := (true, "f900df84172698af3b2faf82acf7772832210a1b8644d7f9b1c84bf0499fda81"), looks := false }, kinds := [], alts := [], laidByText := true, laidKinds := [.data], laidTests := true, laidLooks := .later }
def GridPartsCardSaid : Prop := Claim7.holds Tryd.pinned (.plain (OpenSpec.ofChange gridPartsSpec)) gridPartsCard

/-- THE TIED CARD OF 'rebuslaw05.GridBack'. -/
def gridBackCard : Claim7 := { stood := { row := gridBackRow, standIns := [], harness := (true, "f900df84172698af3b2faf82acf7772832210a1b8644d7f9b1c84bf0499fda81"), looks := false }, kinds := [], alts := [], laidByText := true, laidKinds := [.data], laidTests := true, laidLooks := .later }
def GridBackCardSaid : Prop := Claim7.holds Tryd.pinned (.plain (OpenSpec.ofChange gridBackSpec)) gridBackCard

/-- THE TIED CARD OF 'rebuslaw05.GridReach'. -/
def gridReachCard : Claim7 := { stood := { row := gridReachRow, standIns := [], harness := (true, "f900df84172698af3b2faf82acf7772832210a1b8644d7f9b1c84bf0499fda81"), looks := false }, kinds := [], alts := [], laidByText := true, laidKinds := [.data], laidTests := true, laidLooks := .later }
def GridReachCardSaid : Prop := Claim7.holds Tryd.pinned (.plain (OpenSpec.ofChange gridReachSpec)) gridReachCard

/-- THE TIED CARD OF 'rebuslaw05.GridBlanks'. -/
def gridBlanksCard : Claim7 := { stood := { row := gridBlanksRow, standIns := [], harness := (true, "f900df84172698af3b2faf82acf7772832210a1b8644d7f9b1c84bf0499fda81"), looks := false }, kinds := [], alts := [], laidByText := true, laidKinds := [.data], laidTests := true, laidLooks := .later }
def GridBlanksCardSaid : Prop := Claim7.holds Tryd.pinned (.plain (OpenSpec.ofChange gridBlanksSpec)) gridBlanksCard

/-- THE SECOND FORM's CARD OF 'rebuslaw05.GridChecks'. -/
def gridChecksUptoCard : Claim7 := { stood := { row := gridChecksUptoRow, standIns := [], harness := (true, "f900df84172698af3b2faf82acf7772832210a1b8644d7f9b1c84bf0499fda81"), looks := false }, kinds := [], alts := [], laidByText := true, laidKinds := [.data], laidTests := true, laidLooks := .later }
def GridChecksUptoCardSaid : Prop := Claim7.holds Tryd.pinned (.plain (OpenSpec.upto gridChecksSpec)) gridChecksUptoCard

/-- THE SECOND FORM's CARD OF 'rebuslaw05.GridSteps'. -/
def gridStepsUptoCard : Claim7 := { stood := { row := gridStepsUptoRow, standIns := [], harness := (true, "f900df84172698af3b2faf82acf7772832210a1b8644d7f9b1c84bf0499fda81"), looks := false }, kinds := [], alts := [], laidByText := true, laidKinds := [.data], laidTests := true, laidLooks := .later }
def GridStepsUptoCardSaid : Prop := Claim7.holds Tryd.pinned (.plain (OpenSpec.upto gridStepsSpec)) gridStepsUptoCard

/-- THE SECOND FORM's CARD OF 'rebuslaw05.GridParts'. -/
def gridPartsUptoCard : Claim7 := { stood := { row := gridPartsUptoRow, standIns := [], harness := (true, "f900df84172698af3b2faf82acf7772832210a1b8644d7f9b1c84bf0499fda81"), looks := false }, kinds := [], alts := [], laidByText := true, laidKinds := [.data], laidTests := true, laidLooks := .later }
def GridPartsUptoCardSaid : Prop := Claim7.holds Tryd.pinned (.plain (OpenSpec.upto gridPartsSpec)) gridPartsUptoCard

/-- THE SECOND FORM's CARD OF 'rebuslaw05.GridBack'. -/
def gridBackUptoCard : Claim7 := { stood := { row := gridBackUptoRow, standIns := [], harness := (true, "f900df84172698af3b2faf82acf7772832210a1b8644d7f9b1c84bf0499fda81"), looks := false }, kinds := [], alts := [], laidByText := true, laidKinds := [.data], laidTests := true, laidLooks := .later }
def GridBackUptoCardSaid : Prop := Claim7.holds Tryd.pinned (.plain (OpenSpec.upto gridBackSpec)) gridBackUptoCard

/-- THE SECOND FORM's CARD OF 'rebuslaw05.GridReach'. -/
def gridReachUptoCard : Claim7 := { stood := { row := gridReachUptoRow, standIns := [], harness := (true, "f900df84172698af3b2faf82acf7772832210a1b8644d7f9b1c84bf0499fda81"), looks := false }, kinds := [], alts := [], laidByText := true, laidKinds := [.data], laidTests := true, laidLooks := .later }
def GridReachUptoCardSaid : Prop := Claim7.holds Tryd.pinned (.plain (OpenSpec.upto gridReachSpec)) gridReachUptoCard

/-- THE SECOND FORM's CARD OF 'rebuslaw05.GridBlanks'. -/
def gridBlanksUptoCard : Claim7 := { stood := { row := gridBlanksUptoRow, standIns := [], harness := (true, "f900df84172698af3b2faf82acf7772832210a1b8644d7f9b1c84bf0499fda81"), looks := false }, kinds := [], alts := [], laidByText := true, laidKinds := [.data], laidTests := true, laidLooks := .later }
def GridBlanksUptoCardSaid : Prop := Claim7.holds Tryd.pinned (.plain (OpenSpec.upto gridBlanksSpec)) gridBlanksUptoCard
end Rows
end Go.Proofs.YtaepndaboefbeaaDoor
