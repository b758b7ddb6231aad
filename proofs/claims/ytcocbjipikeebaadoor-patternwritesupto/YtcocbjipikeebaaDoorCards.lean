/-
  DERIVED. GIVEN WITH THE SEED: THE CARDS: each row of YtcocbjipikeebaaDoorRows.lean that lists a variable, with what it lists TIED to the program's text (the seventh form; the later family's looks); each row that meets fmt, with fmt's text TOLD by the authors' own Lean function (tested against real Go, not proved from fmt's source: count such statements apart). THE CARD IS WHAT COUNTS. Prove the row's statement (the work); the ties are given (YtcocbjipikeebaaDoorTie.lean); close each card by the builder's one call (the guide's Derived/Test/ToyasCard.lean, 'card_holds'). Laid BY PROGRAM, IN A SANDBOX (cutbox-door.mjs). By AI agents, Wed Nov 11 2026. No macro, syntax, notation, axiom, sorry.
-/
import Derived.Test.YtcocbjipikeebaaDoorRows
import GoSem.ClaimSeven
namespace Go.Proofs.YtcocbjipikeebaaDoor
namespace Rows

/-- THE TIED CARD OF 'rebuslaw10.PatternWrites'. -/
def patternWritesCard : Claim7 := { stood := { row := patternWritesRow, standIns := [], harness := (true, "a95b728774dd1f8f2f598e7c2cb92278d8c292ad91fbae631747920cbd8b3c42"), looks := false }, kinds := [], alts := [], laidByText := true, laidKinds := [.data, .data, .pinned], laidTests := true, laidLooks := .later }
def PatternWritesCardSaid : Prop := Claim7.holds Tryd.pinned (.plain (OpenSpec.ofChange patternWritesSpec)) patternWritesCard

/-- THE TIED CARD OF 'rebuslaw10.PatternCanon'. -/
def patternCanonCard : Claim7 := { stood := { row := patternCanonRow, standIns := [], harness := (true, "a95b728774dd1f8f2f598e7c2cb92278d8c292ad91fbae631747920cbd8b3c42"), looks := false }, kinds := [], alts := [], laidByText := true, laidKinds := [.data, .data, .pinned], laidTests := true, laidLooks := .later }
def PatternCanonCardSaid : Prop := Claim7.holds Tryd.pinned (.plain (OpenSpec.ofChange patternCanonSpec)) patternCanonCard

/-- THE SECOND FORM's CARD OF 'rebuslaw10.PatternWrites'. -/
def patternWritesUptoCard : Claim7 := { stood := { row := patternWritesUptoRow, standIns := [], harness := (true, "a95b728774dd1f8f2f598e7c2cb92278d8c292ad91fbae631747920cbd8b3c42"), looks := false }, kinds := [], alts := [], laidByText := true, laidKinds := [.data, .data, .pinned], laidTests := true, laidLooks := .later }
def PatternWritesUptoCardSaid : Prop := Claim7.holds Tryd.pinned (.plain (OpenSpec.upto patternWritesSpec)) patternWritesUptoCard

/-- THE SECOND FORM's CARD OF 'rebuslaw10.PatternCanon'. -/
def patternCanonUptoCard : Claim7 := { stood := { row := patternCanonUptoRow, standIns := [], harness := (true, "a95b728774dd1f8f2f598e7c2cb92278d8c292ad91fbae631747920cbd8b3c42"), looks := false }, kinds := [], alts := [], laidByText := true, laidKinds := [.data, .data, .pinned], laidTests := true, laidLooks := .later }
def PatternCanonUptoCardSaid : Prop := Claim7.holds Tryd.pinned (.plain (OpenSpec.upto patternCanonSpec)) patternCanonUptoCard
end Rows
end Go.Proofs.YtcocbjipikeebaaDoor
