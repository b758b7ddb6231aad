/-
  DERIVED. GIVEN WITH THE SEED: THE CARDS: each row of YtcocbjipikeebaaGreatDoorRows.lean that lists a variable, with what it lists TIED to the program's text (the seventh form; the later family's looks); each row that meets fmt, with fmt's text TOLD by the authors' own Lean function (tested against real Go, not proved from fmt's source: count such statements apart). THE CARD IS WHAT COUNTS. Prove the row's statement (the work); the ties are given (YtcocbjipikeebaaGreatDoorTie.lean); close each card by the builder's one call (the guide's Derived/Test/ToyasCard.lean, 'card_holds'). Laid BY PROGRAM, IN A SANDBOX (cutbox-door.mjs). By AI agents, Wed Nov 11 2026. No macro, syntax, notation, axiom, sorry.
-/
import Derived.Test.YtcocbjipikeebaaGreatDoorRows
import GoSem.ClaimSeven
namespace Go.Proofs.YtcocbjipikeebaaGreatDoor
namespace Rows

/-- THE TIED CARD OF 'rebuslaw10.PatternFits'. -/
def patternFitsCard : Claim7 := { stood := { row := patternFitsRow, standIns := [], harness := (true, "14a5712109176a9e8de25898c4f9ff85b72c527d3e82411dbe3a934b313d66e3"), looks := false }, kinds := [], alts := [], laidByText := true, laidKinds := [.data, .data, .pinned], laidTests := true, laidLooks := .later }
def PatternFitsCardSaid : Prop := Claim7.holds Tryz.pinned (.plain (OpenSpec.ofChange patternFitsSpec)) patternFitsCard

/-- THE TIED CARD OF 'rebuslaw10.PatternHits'. -/
def patternHitsCard : Claim7 := { stood := { row := patternHitsRow, standIns := [], harness := (true, "14a5712109176a9e8de25898c4f9ff85b72c527d3e82411dbe3a934b313d66e3"), looks := false }, kinds := [], alts := [], laidByText := true, laidKinds := [.data, .data, .pinned], laidTests := true, laidLooks := .later }
def PatternHitsCardSaid : Prop := Claim7.holds Tryz.pinned (.plain (OpenSpec.ofChange patternHitsSpec)) patternHitsCard

/-- THE SECOND FORM's CARD OF 'rebuslaw10.PatternFits'. -/
def patternFitsUptoCard : Claim7 := { stood := { row := patternFitsUptoRow, standIns := [], harness := (true, "14a5712109176a9e8de25898c4f9ff85b72c527d3e82411dbe3a934b313d66e3"), looks := false }, kinds := [], alts := [], laidByText := true, laidKinds := [.data, .data, .pinned], laidTests := true, laidLooks := .later }
def PatternFitsUptoCardSaid : Prop := Claim7.holds Tryz.pinned (.plain (OpenSpec.upto patternFitsSpec)) patternFitsUptoCard

/-- THE SECOND FORM's CARD OF 'rebuslaw10.PatternHits'. -/
def patternHitsUptoCard : Claim7 := { stood := { row := patternHitsUptoRow, standIns := [], harness := (true, "14a5712109176a9e8de25898c4f9ff85b72c527d3e82411dbe3a934b313d66e3"), looks := false }, kinds := [], alts := [], laidByText := true, laidKinds := [.data, .data, .pinned], laidTests := true, laidLooks := .later }
def PatternHitsUptoCardSaid : Prop := Claim7.holds Tryz.pinned (.plain (OpenSpec.upto patternHitsSpec)) patternHitsUptoCard
end Rows
end Go.Proofs.YtcocbjipikeebaaGreatDoor
