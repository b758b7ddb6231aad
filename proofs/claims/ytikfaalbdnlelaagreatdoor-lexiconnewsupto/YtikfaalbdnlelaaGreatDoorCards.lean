/-
  DERIVED. GIVEN WITH THE SEED: THE CARDS: each row of YtikfaalbdnlelaaGreatDoorRows.lean that lists a variable, with what it lists TIED to the program's text (the seventh form; the later family's looks); each row that meets fmt, with fmt's text TOLD by the authors' own Lean function (tested against real Go, not proved from fmt's source: count such statements apart). THE CARD IS WHAT COUNTS. Prove the row's statement (the work); the ties are given (YtikfaalbdnlelaaGreatDoorTie.lean); close each card by the builder's one call (the guide's Derived/Test/ToyasCard.lean, 'card_holds'). Laid BY PROGRAM, IN A SANDBOX (cutbox-door.mjs). By AI agents, Wed Nov 11 2026. No macro, syntax, notation, axiom, sorry.
-/
import Derived.Test.YtikfaalbdnlelaaGreatDoorRows
import GoSem.ClaimSeven
namespace Go.Proofs.YtikfaalbdnlelaaGreatDoor
namespace Rows

/-- THE TIED CARD OF 'rebuslaw09.LexiconNews'. -/
def lexiconNewsCard : Claim7 := { stood := { row := lexiconNewsRow, standIns := [], harness := (true, "02619a59db78426274d5b93fb1074db65d2cebf5af92d8227ca72b8ebe7b78e2"), looks := false }, kinds := [], alts := [], laidByText := true, laidKinds := [.data, .data, .data], laidTests := true, laidLooks := .later }
def LexiconNewsCardSaid : Prop := Claim7.holds Tryz.pinned (.plain (OpenSpec.ofChange lexiconNewsSpec)) lexiconNewsCard

/-- THE TIED CARD OF 'rebuslaw09.LexiconReads'. -/
def lexiconReadsCard : Claim7 := { stood := { row := lexiconReadsRow, standIns := [], harness := (true, "02619a59db78426274d5b93fb1074db65d2cebf5af92d8227ca72b8ebe7b78e2"), looks := false }, kinds := [], alts := [], laidByText := true, laidKinds := [.data, .data, .data], laidTests := true, laidLooks := .later }
def LexiconReadsCardSaid : Prop := Claim7.holds Tryz.pinned (.plain (OpenSpec.ofChange lexiconReadsSpec)) lexiconReadsCard

/-- THE TIED CARD OF 'rebuslaw09.LexiconBack'. -/
def lexiconBackCard : Claim7 := { stood := { row := lexiconBackRow, standIns := [], harness := (true, "02619a59db78426274d5b93fb1074db65d2cebf5af92d8227ca72b8ebe7b78e2"), looks := false }, kinds := [], alts := [], laidByText := true, laidKinds := [.data, .data, .data], laidTests := true, laidLooks := .later }
def LexiconBackCardSaid : Prop := Claim7.holds Tryz.pinned (.plain (OpenSpec.ofChange lexiconBackSpec)) lexiconBackCard

/-- THE SECOND FORM's CARD OF 'rebuslaw09.LexiconNews'. -/
def lexiconNewsUptoCard : Claim7 := { stood := { row := lexiconNewsUptoRow, standIns := [], harness := (true, "02619a59db78426274d5b93fb1074db65d2cebf5af92d8227ca72b8ebe7b78e2"), looks := false }, kinds := [], alts := [], laidByText := true, laidKinds := [.data, .data, .data], laidTests := true, laidLooks := .later }
def LexiconNewsUptoCardSaid : Prop := Claim7.holds Tryz.pinned (.plain (OpenSpec.upto lexiconNewsSpec)) lexiconNewsUptoCard

/-- THE SECOND FORM's CARD OF 'rebuslaw09.LexiconReads'. -/
def lexiconReadsUptoCard : Claim7 := { stood := { row := lexiconReadsUptoRow, standIns := [], harness := (true, "02619a59db78426274d5b93fb1074db65d2cebf5af92d8227ca72b8ebe7b78e2"), looks := false }, kinds := [], alts := [], laidByText := true, laidKinds := [.data, .data, .data], laidTests := true, laidLooks := .later }
def LexiconReadsUptoCardSaid : Prop := Claim7.holds Tryz.pinned (.plain (OpenSpec.upto lexiconReadsSpec)) lexiconReadsUptoCard

/-- THE SECOND FORM's CARD OF 'rebuslaw09.LexiconBack'. -/
def lexiconBackUptoCard : Claim7 := { stood := { row := lexiconBackUptoRow, standIns := [], harness := (true, "02619a59db78426274d5b93fb1074db65d2cebf5af92d8227ca72b8ebe7b78e2"), looks := false }, kinds := [], alts := [], laidByText := true, laidKinds := [.data, .data, .data], laidTests := true, laidLooks := .later }
def LexiconBackUptoCardSaid : Prop := Claim7.holds Tryz.pinned (.plain (OpenSpec.upto lexiconBackSpec)) lexiconBackUptoCard
end Rows
end Go.Proofs.YtikfaalbdnlelaaGreatDoor
