/-
  DERIVED. GIVEN WITH THE SEED: THE CARDS: each row of YtilokjcbkhhifaaDoorRows.lean that lists a variable, with what it lists TIED to the program's text (the seventh form; the later family's looks); each row that meets fmt, with fmt's text TOLD by the authors' own Lean function (tested against real Go, not proved from fmt's source: count such statements apart). THE CARD IS WHAT COUNTS. Prove the row's statement (the work); the ties are given (YtilokjcbkhhifaaDoorTie.lean); close each card by the builder's one call (the guide's Derived/Test/ToyasCard.lean, 'card_holds'). Laid BY PROGRAM, IN A SANDBOX (cutbox-door.mjs). By AI agents, Wed Nov 11 2026. No macro, syntax, notation, axiom, sorry.
-/
import Derived.Test.YtilokjcbkhhifaaDoorRows
import GoSem.ClaimSeven
namespace Go.Proofs.YtilokjcbkhhifaaDoor
namespace Rows

/-- THE TIED CARD OF 'rebuslaw07.SlotsLists'. -/
def slotsListsCard : Claim7 := { stood := { row := slotsListsRow, standIns := [], harness := (true, "9b2156e76cb4cb0cf2e7f4a664f588b9b705132987fd5c83baed1d3d6319365f"), looks := true }, kinds := [], alts := [], laidByText := true, laidKinds := [.data, .data, .data, .data], laidTests := true, laidLooks := .later }
def SlotsListsCardSaid : Prop := Claim7.holds Tryd.pinned (.plain (OpenSpec.ofChange slotsListsSpec)) slotsListsCard

/-- THE TIED CARD OF 'rebuslaw07.SlotsAsks'. -/
def slotsAsksCard : Claim7 := { stood := { row := slotsAsksRow, standIns := [], harness := (true, "9b2156e76cb4cb0cf2e7f4a664f588b9b705132987fd5c83baed1d3d6319365f"), looks := true }, kinds := [], alts := [], laidByText := true, laidKinds := [.data, .data, .data, .data], laidTests := true, laidLooks := .later }
def SlotsAsksCardSaid : Prop := Claim7.holds Tryd.pinned (.plain (OpenSpec.ofChange slotsAsksSpec)) slotsAsksCard

/-- THE TIED CARD OF 'rebuslaw07.SlotsNames'. -/
def slotsNamesCard : Claim7 := { stood := { row := slotsNamesRow, standIns := [], harness := (true, "9b2156e76cb4cb0cf2e7f4a664f588b9b705132987fd5c83baed1d3d6319365f"), looks := true }, kinds := [], alts := [], laidByText := true, laidKinds := [.data, .data, .data, .sentinel, .sentinel, .data], laidTests := true, laidLooks := .later }
def SlotsNamesCardSaid : Prop := Claim7.holds Tryd.pinned (.plain (OpenSpec.ofChange slotsNamesSpec)) slotsNamesCard

/-- THE TIED CARD OF 'rebuslaw07.SlotsRuns'. -/
def slotsRunsCard : Claim7 := { stood := { row := slotsRunsRow, standIns := [], harness := (true, "9b2156e76cb4cb0cf2e7f4a664f588b9b705132987fd5c83baed1d3d6319365f"), looks := true }, kinds := [], alts := [], laidByText := true, laidKinds := [.data, .data, .data, .data], laidTests := true, laidLooks := .later }
def SlotsRunsCardSaid : Prop := Claim7.holds Tryd.pinned (.plain (OpenSpec.ofChange slotsRunsSpec)) slotsRunsCard

/-- THE TIED CARD OF 'rebuslaw07.SlotsSeats'. -/
def slotsSeatsCard : Claim7 := { stood := { row := slotsSeatsRow, standIns := [], harness := (true, "9b2156e76cb4cb0cf2e7f4a664f588b9b705132987fd5c83baed1d3d6319365f"), looks := true }, kinds := [], alts := [], laidByText := true, laidKinds := [.data, .data, .data, .data], laidTests := true, laidLooks := .later }
def SlotsSeatsCardSaid : Prop := Claim7.holds Tryd.pinned (.plain (OpenSpec.ofChange slotsSeatsSpec)) slotsSeatsCard

/-- THE TIED CARD OF 'rebuslaw07.SlotsTurned'. -/
def slotsTurnedCard : Claim7 := { stood := { row := slotsTurnedRow, standIns := [], harness := (true, "9b2156e76cb4cb0cf2e7f4a664f588b9b705132987fd5c83baed1d3d6319365f"), looks := true }, kinds := [], alts := [], laidByText := true, laidKinds := [.data, .data, .data, .data], laidTests := true, laidLooks := .later }
def SlotsTurnedCardSaid : Prop := Claim7.holds Tryd.pinned (.plain (OpenSpec.ofChange slotsTurnedSpec)) slotsTurnedCard

/-- THE SECOND FORM's CARD OF 'rebuslaw07.SlotsLists'. -/
def slotsListsUptoCard : Claim7 := { stood := { row := slotsListsUptoRow, standIns := [], harness := (true, "9b2156e76cb4cb0cf2e7f4a664f588b9b705132987fd5c83baed1d3d6319365f"), looks := true }, kinds := [], alts := [], laidByText := true, laidKinds := [.data, .data, .data, .data], laidTests := true, laidLooks := .later }
def SlotsListsUptoCardSaid : Prop := Claim7.holds Tryd.pinned (.plain (OpenSpec.upto slotsListsSpec)) slotsListsUptoCard

/-- THE SECOND FORM's CARD OF 'rebuslaw07.SlotsAsks'. -/
def slotsAsksUptoCard : Claim7 := { stood := { row := slotsAsksUptoRow, standIns := [], harness := (true, "9b2156e76cb4cb0cf2e7f4a664f588b9b705132987fd5c83baed1d3d6319365f"), looks := true }, kinds := [], alts := [], laidByText := true, laidKinds := [.data, .data, .data, .data], laidTests := true, laidLooks := .later }
def SlotsAsksUptoCardSaid : Prop := Claim7.holds Tryd.pinned (.plain (OpenSpec.upto slotsAsksSpec)) slotsAsksUptoCard

/-- THE SECOND FORM's CARD OF 'rebuslaw07.SlotsNames'. -/
def slotsNamesUptoCard : Claim7 := { stood := { row := slotsNamesUptoRow, standIns := [], harness := (true, "9b2156e76cb4cb0cf2e7f4a664f588b9b705132987fd5c83baed1d3d6319365f"), looks := true }, kinds := [], alts := [], laidByText := true, laidKinds := [.data, .data, .data, .sentinel, .sentinel, .data], laidTests := true, laidLooks := .later }
def SlotsNamesUptoCardSaid : Prop := Claim7.holds Tryd.pinned (.plain (OpenSpec.upto slotsNamesSpec)) slotsNamesUptoCard

/-- THE SECOND FORM's CARD OF 'rebuslaw07.SlotsRuns'. -/
def slotsRunsUptoCard : Claim7 := { stood := { row := slotsRunsUptoRow, standIns := [], harness := (true, "9b2156e76cb4cb0cf2e7f4a664f588b9b705132987fd5c83baed1d3d6319365f"), looks := true }, kinds := [], alts := [], laidByText := true, laidKinds := [.data, .data, .data, .data], laidTests := true, laidLooks := .later }
def SlotsRunsUptoCardSaid : Prop := Claim7.holds Tryd.pinned (.plain (OpenSpec.upto slotsRunsSpec)) slotsRunsUptoCard

/-- THE SECOND FORM's CARD OF 'rebuslaw07.SlotsSeats'. -/
def slotsSeatsUptoCard : Claim7 := { stood := { row := slotsSeatsUptoRow, standIns := [], harness := (true, "9b2156e76cb4cb0cf2e7f4a664f588b9b705132987fd5c83baed1d3d6319365f"), looks := true }, kinds := [], alts := [], laidByText := true, laidKinds := [.data, .data, .data, .data], laidTests := true, laidLooks := .later }
def SlotsSeatsUptoCardSaid : Prop := Claim7.holds Tryd.pinned (.plain (OpenSpec.upto slotsSeatsSpec)) slotsSeatsUptoCard

/-- THE SECOND FORM's CARD OF 'rebuslaw07.SlotsTurned'. -/
def slotsTurnedUptoCard : Claim7 := { stood := { row := slotsTurnedUptoRow, standIns := [], harness := (true, "9b2156e76cb4cb0cf2e7f4a664f588b9b705132987fd5c83baed1d3d6319365f"), looks := true }, kinds := [], alts := [], laidByText := true, laidKinds := [.data, .data, .data, .data], laidTests := true, laidLooks := .later }
def SlotsTurnedUptoCardSaid : Prop := Claim7.holds Tryd.pinned (.plain (OpenSpec.upto slotsTurnedSpec)) slotsTurnedUptoCard
end Rows
end Go.Proofs.YtilokjcbkhhifaaDoor
