/-
  DERIVED. GIVEN WITH THE SEED: THE CARDS: each row of YtlgbpimmhnncgaaDoorRows.lean that lists a variable, with what it lists TIED to the program's text (the seventh form; the later family's looks); each row that meets fmt, with fmt's text TOLD by the authors' own Lean function (tested against real Go, not proved from fmt's source: count such statements apart). THE CARD IS WHAT COUNTS. Prove the row's statement (the work); the ties are given (YtlgbpimmhnncgaaDoorTie.lean); close each card by the builder's one call (the guide's Derived/Test/ToyasCard.lean, 'card_holds'). Laid BY PROGRAM, IN A SANDBOX (cutbox-door.mjs). By AI agents, Wed Nov 11 2026. No macro, syntax, notation, axiom, sorry.
-/
import Derived.Test.YtlgbpimmhnncgaaDoorRows
import GoSem.ClaimSeven
namespace Go.Proofs.YtlgbpimmhnncgaaDoor
namespace Rows

/-- THE TIED CARD OF 'rebuslaw04.MaskExact'. -/
def maskExactCard : Claim7 := { stood := { row := maskExactRow, standIns := [], harness := (true, "197ba8ec2b11fdc8e2fcabb92e99053d69bdeab1fb02615d9ffeeccecb2cb77a"), looks := false }, kinds := [], alts := [], laidByText := true, laidKinds := [.data], laidTests := true, laidLooks := .later }
def MaskExactCardSaid : Prop := Claim7.holds Tryd.pinned (.plain (OpenSpec.ofChange maskExactSpec)) maskExactCard

/-- THE TIED CARD OF 'rebuslaw04.MaskBack'. -/
def maskBackCard : Claim7 := { stood := { row := maskBackRow, standIns := [], harness := (true, "197ba8ec2b11fdc8e2fcabb92e99053d69bdeab1fb02615d9ffeeccecb2cb77a"), looks := false }, kinds := [], alts := [], laidByText := true, laidKinds := [.data], laidTests := true, laidLooks := .later }
def MaskBackCardSaid : Prop := Claim7.holds Tryd.pinned (.plain (OpenSpec.ofChange maskBackSpec)) maskBackCard

/-- THE TIED CARD OF 'rebuslaw04.MaskEach'. -/
def maskEachCard : Claim7 := { stood := { row := maskEachRow, standIns := [], harness := (true, "197ba8ec2b11fdc8e2fcabb92e99053d69bdeab1fb02615d9ffeeccecb2cb77a"), looks := false }, kinds := [], alts := [], laidByText := true, laidKinds := [.data], laidTests := true, laidLooks := .later }
def MaskEachCardSaid : Prop := Claim7.holds Tryd.pinned (.plain (OpenSpec.ofChange maskEachSpec)) maskEachCard

/-- THE TIED CARD OF 'rebuslaw04.MaskSubs'. -/
def maskSubsCard : Claim7 := { stood := { row := maskSubsRow, standIns := [], harness := (true, "197ba8ec2b11fdc8e2fcabb92e99053d69bdeab1fb02615d9ffeeccecb2cb77a"), looks := false }, kinds := [], alts := [], laidByText := true, laidKinds := [.data], laidTests := true, laidLooks := .later }
def MaskSubsCardSaid : Prop := Claim7.holds Tryd.pinned (.plain (OpenSpec.ofChange maskSubsSpec)) maskSubsCard

/-- THE SECOND FORM's CARD OF 'rebuslaw04.MaskExact'. -/
def maskExactUptoCard : Claim7 := { stood := { row := maskExactUptoRow, standIns := [], harness := (true, "197ba8ec2b11fdc8e2fcabb92e99053d69bdeab1fb02615d9ffeeccecb2cb77a"), looks := false }, kinds := [], alts := [], laidByText := true, laidKinds := [.data], laidTests := true, laidLooks := .later }
def MaskExactUptoCardSaid : Prop := Claim7.holds Tryd.pinned (.plain (OpenSpec.upto maskExactSpec)) maskExactUptoCard

/-- THE SECOND FORM's CARD OF 'rebuslaw04.MaskBack'. -/
def maskBackUptoCard : Claim7 := { stood := { row := maskBackUptoRow, standIns := [], harness := (true, "197ba8ec2b11fdc8e2fcabb92e99053d69bdeab1fb02615d9ffeeccecb2cb77a"), looks := false }, kinds := [], alts := [], laidByText := true, laidKinds := [.data], laidTests := true, laidLooks := .later }
def MaskBackUptoCardSaid : Prop := Claim7.holds Tryd.pinned (.plain (OpenSpec.upto maskBackSpec)) maskBackUptoCard

/-- THE SECOND FORM's CARD OF 'rebuslaw04.MaskEach'. -/
def maskEachUptoCard : Claim7 := { stood := { row := maskEachUptoRow, standIns := [], harness := (true, "197ba8ec2b11fdc8e2fcabb92e99053d69bdeab1fb02615d9ffeeccecb2cb77a"), looks := false }, kinds := [], alts := [], laidByText := true, laidKinds := [.data], laidTests := true, laidLooks := .later }
def MaskEachUptoCardSaid : Prop := Claim7.holds Tryd.pinned (.plain (OpenSpec.upto maskEachSpec)) maskEachUptoCard

/-- THE SECOND FORM's CARD OF 'rebuslaw04.MaskSubs'. -/
def maskSubsUptoCard : Claim7 := { stood := { row := maskSubsUptoRow, standIns := [], harness := (true, "197ba8ec2b11fdc8e2fcabb92e99053d69bdeab1fb02615d9ffeeccecb2cb77a"), looks := false }, kinds := [], alts := [], laidByText := true, laidKinds := [.data], laidTests := true, laidLooks := .later }
def MaskSubsUptoCardSaid : Prop := Claim7.holds Tryd.pinned (.plain (OpenSpec.upto maskSubsSpec)) maskSubsUptoCard
end Rows
end Go.Proofs.YtlgbpimmhnncgaaDoor
