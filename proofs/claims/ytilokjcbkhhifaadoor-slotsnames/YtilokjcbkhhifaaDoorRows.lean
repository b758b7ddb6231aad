/-
  NARROWER THAN 'FOR EVERY INPUT', by the rows' own cells (each row's printed sentence says how): SlotsLists: laid · SlotsAsks: laid · SlotsNames: laid · SlotsRuns: laid · SlotsSeats: laid · SlotsTurned: laid.
  DERIVED. THE GIVEN ROWS OF THIS SEAT. 6 by the template 'for every input the law returns true; each argument reads behind the call as it read before'; 0 by the template 'total and deterministic' (their statements: YtilokjcbkhhifaaDoorTotals.lean).
  GIVEN WITH THE SEED: the statements are not yours to turn. If you find one false, say at which input.
  Laid BY PROGRAM, IN A SANDBOX (cutbox-rows.mjs): the forced cells as the released guide's own fill.sh prints them over the translation bb6bd3bcc2be4e33… (all of the seat's roots in one cut). By AI agents, Wed Nov 11 2026. No macro, syntax, notation, axiom, sorry.
-/
import Derived.Test.YtilokjcbkhhifaaDoorChecked
import GoSem.Claim
import GoSem.ClaimJoined
import GoSem.ClaimMapViews
import Derived.JoinedTies
import Derived.KernelRfl
namespace Go.Proofs.YtilokjcbkhhifaaDoor
/- THE CELL 'sum', in the pinned program and in every row, IS THE sha256 OF THE DUMP (.gsa) THAT YtilokjcbkhhifaaDoorProg.lean LOADS. Nothing in Lean hashes anything: it is a label: what it is worth is what the hold of that sum in a sandbox is worth. -/
noncomputable def Tryd.pinned : Pinned := { name := "ytilokjcbkhhifaadoor", sum := "bb6bd3bcc2be4e33bb4c70fe3d07eafdab1af3ea1df9915dd1a69935c75456bb", checked := Tryd.checked }
namespace Rows
def none {H : Type} : Left H := { results := [], args := [] }

/- WHAT THE LISTED PACKAGE-LEVEL VARIABLES READ AS WHEN THE CALL BEGINS. Each datum BY PROGRAM (the guide's laid-datum.mjs) off the statement by which the dump's own 'gosem.cut.vars' lays the variable. In a bare row this is a premise. The card (YtilokjcbkhhifaaDoorCards.lean) ties it to the program's text. -/
def laid_math_bits_deBruijn32tab {H : Type} : DataW H := .agg [.lit (.int .u8 0), .lit (.int .u8 1), .lit (.int .u8 28), .lit (.int .u8 2), .lit (.int .u8 29), .lit (.int .u8 14), .lit (.int .u8 24), .lit (.int .u8 3), .lit (.int .u8 30), .lit (.int .u8 22), .lit (.int .u8 20), .lit (.int .u8 15), .lit (.int .u8 25), .lit (.int .u8 17), .lit (.int .u8 4), .lit (.int .u8 8), .lit (.int .u8 31), .lit (.int .u8 27), .lit (.int .u8 13), .lit (.int .u8 23), .lit (.int .u8 21), .lit (.int .u8 19), .lit (.int .u8 16), .lit (.int .u8 7), .lit (.int .u8 26), .lit (.int .u8 12), .lit (.int .u8 18), .lit (.int .u8 6), .lit (.int .u8 11), .lit (.int .u8 5), .lit (.int .u8 10), .lit (.int .u8 9)]
def laid_math_bits_deBruijn64tab {H : Type} : DataW H := .agg [.lit (.int .u8 0), .lit (.int .u8 1), .lit (.int .u8 56), .lit (.int .u8 2), .lit (.int .u8 57), .lit (.int .u8 49), .lit (.int .u8 28), .lit (.int .u8 3), .lit (.int .u8 61), .lit (.int .u8 58), .lit (.int .u8 42), .lit (.int .u8 50), .lit (.int .u8 38), .lit (.int .u8 29), .lit (.int .u8 17), .lit (.int .u8 4), .lit (.int .u8 62), .lit (.int .u8 47), .lit (.int .u8 59), .lit (.int .u8 36), .lit (.int .u8 45), .lit (.int .u8 43), .lit (.int .u8 51), .lit (.int .u8 22), .lit (.int .u8 53), .lit (.int .u8 39), .lit (.int .u8 33), .lit (.int .u8 30), .lit (.int .u8 24), .lit (.int .u8 18), .lit (.int .u8 12), .lit (.int .u8 5), .lit (.int .u8 63), .lit (.int .u8 55), .lit (.int .u8 48), .lit (.int .u8 27), .lit (.int .u8 60), .lit (.int .u8 41), .lit (.int .u8 37), .lit (.int .u8 16), .lit (.int .u8 46), .lit (.int .u8 35), .lit (.int .u8 44), .lit (.int .u8 21), .lit (.int .u8 52), .lit (.int .u8 32), .lit (.int .u8 23), .lit (.int .u8 11), .lit (.int .u8 54), .lit (.int .u8 26), .lit (.int .u8 40), .lit (.int .u8 15), .lit (.int .u8 34), .lit (.int .u8 20), .lit (.int .u8 31), .lit (.int .u8 10), .lit (.int .u8 25), .lit (.int .u8 14), .lit (.int .u8 19), .lit (.int .u8 9), .lit (.int .u8 13), .lit (.int .u8 8), .lit (.int .u8 7), .lit (.int .u8 6)]
def laid_internal_strconv_uint64pow10 {H : Type} : DataW H := .agg [.lit (.int .u64 1), .lit (.int .u64 10), .lit (.int .u64 100), .lit (.int .u64 1000), .lit (.int .u64 10000), .lit (.int .u64 100000), .lit (.int .u64 1000000), .lit (.int .u64 10000000), .lit (.int .u64 100000000), .lit (.int .u64 1000000000), .lit (.int .u64 10000000000), .lit (.int .u64 100000000000), .lit (.int .u64 1000000000000), .lit (.int .u64 10000000000000), .lit (.int .u64 100000000000000), .lit (.int .u64 1000000000000000), .lit (.int .u64 10000000000000000), .lit (.int .u64 100000000000000000), .lit (.int .u64 1000000000000000000), .lit (.int .u64 10000000000000000000)]
def laid_rebus_grid_ways {H : Type} : DataW H := .agg [.agg [.lit (.int .i64 0), .lit (.int .i64 1)], .agg [.lit (.int .i64 1), .lit (.int .i64 0)], .agg [.lit (.int .i64 0), .lit (.int .i64 (-1))], .agg [.lit (.int .i64 (-1)), .lit (.int .i64 0)]]
def laid_strconv_ErrRange {H : Type} : DataW H := .iface "*errors.errorString" (.ptr (.agg [.lit (.string [118, 97, 108, 117, 101, 32, 111, 117, 116, 32, 111, 102, 32, 114, 97, 110, 103, 101])]))
def laid_strconv_ErrSyntax {H : Type} : DataW H := .iface "*errors.errorString" (.ptr (.agg [.lit (.string [105, 110, 118, 97, 108, 105, 100, 32, 115, 121, 110, 116, 97, 120])]))

/-- 'rebuslaw07.SlotsLists': WHATEVER THE INPUT: true; the input reads as it did. -/
def slotsListsSpec : ChangeSpec := { name := "slotsLists", fn := fun _ => fun
  | [d] => { results := [.lit (.bool true)], args := [d] }
  | _ => none }
def slotsListsRow : OpenClaim := { program := "ytilokjcbkhhifaadoor", sum := "bb6bd3bcc2be4e33bb4c70fe3d07eafdab1af3ea1df9915dd1a69935c75456bb", func := "rebus/rebuslaw07.SlotsLists", spec := "slotsLists", unfollowed := true, recurses := true, named := ["rebus/grid.ways", "internal/strconv.uint64pow10", "math/bits.deBruijn32tab", "math/bits.deBruijn64tab"], apart := false, laid := [("math/bits.deBruijn32tab", laid_math_bits_deBruijn32tab), ("math/bits.deBruijn64tab", laid_math_bits_deBruijn64tab), ("internal/strconv.uint64pow10", laid_internal_strconv_uint64pow10), ("rebus/grid.ways", laid_rebus_grid_ways)] }
def SlotsListsSaid : Prop := slotsListsRow.holds Tryd.pinned (OpenSpec.ofChange slotsListsSpec)

/-- ITS FALSE NEIGHBOUR: 'it returns false'. Refute it at one input. -/
def slotsListsWrong : ChangeSpec := { name := "slotsLists", fn := fun _ => fun
  | [d] => { results := [.lit (.bool false)], args := [d] }
  | _ => none }
def SlotsListsWrongFalsely : Prop := slotsListsRow.holds Tryd.pinned (OpenSpec.ofChange slotsListsWrong)

/-- 'rebuslaw07.SlotsAsks': WHATEVER THE INPUT: true; the input reads as it did. -/
def slotsAsksSpec : ChangeSpec := { name := "slotsAsks", fn := fun _ => fun
  | [d1, d2, d3] => { results := [.lit (.bool true)], args := [d1, d2, d3] }
  | _ => none }
def slotsAsksRow : OpenClaim := { program := "ytilokjcbkhhifaadoor", sum := "bb6bd3bcc2be4e33bb4c70fe3d07eafdab1af3ea1df9915dd1a69935c75456bb", func := "rebus/rebuslaw07.SlotsAsks", spec := "slotsAsks", unfollowed := true, recurses := true, named := ["rebus/grid.ways", "internal/strconv.uint64pow10", "math/bits.deBruijn32tab", "math/bits.deBruijn64tab"], apart := false, laid := [("math/bits.deBruijn32tab", laid_math_bits_deBruijn32tab), ("math/bits.deBruijn64tab", laid_math_bits_deBruijn64tab), ("internal/strconv.uint64pow10", laid_internal_strconv_uint64pow10), ("rebus/grid.ways", laid_rebus_grid_ways)] }
def SlotsAsksSaid : Prop := slotsAsksRow.holds Tryd.pinned (OpenSpec.ofChange slotsAsksSpec)

/-- ITS FALSE NEIGHBOUR: 'it returns false'. Refute it at one input. -/
def slotsAsksWrong : ChangeSpec := { name := "slotsAsks", fn := fun _ => fun
  | [d1, d2, d3] => { results := [.lit (.bool false)], args := [d1, d2, d3] }
  | _ => none }
def SlotsAsksWrongFalsely : Prop := slotsAsksRow.holds Tryd.pinned (OpenSpec.ofChange slotsAsksWrong)

/-- 'rebuslaw07.SlotsNames': WHATEVER THE INPUT: true; the input reads as it did. -/
def slotsNamesSpec : ChangeSpec := { name := "slotsNames", fn := fun _ => fun
  | [d1, d2, d3] => { results := [.lit (.bool true)], args := [d1, d2, d3] }
  | _ => none }
def slotsNamesRow : OpenClaim := { program := "ytilokjcbkhhifaadoor", sum := "bb6bd3bcc2be4e33bb4c70fe3d07eafdab1af3ea1df9915dd1a69935c75456bb", func := "rebus/rebuslaw07.SlotsNames", spec := "slotsNames", unfollowed := true, recurses := true, named := ["rebus/grid.ways", "internal/strconv.uint64pow10", "math/bits.deBruijn32tab", "math/bits.deBruijn64tab", "strconv.ErrSyntax", "strconv.ErrRange"], apart := false, laid := [("math/bits.deBruijn32tab", laid_math_bits_deBruijn32tab), ("math/bits.deBruijn64tab", laid_math_bits_deBruijn64tab), ("internal/strconv.uint64pow10", laid_internal_strconv_uint64pow10), ("strconv.ErrRange", laid_strconv_ErrRange), ("strconv.ErrSyntax", laid_strconv_ErrSyntax), ("rebus/grid.ways", laid_rebus_grid_ways)] }
def SlotsNamesSaid : Prop := slotsNamesRow.holds Tryd.pinned (OpenSpec.ofChange slotsNamesSpec)

/-- ITS FALSE NEIGHBOUR: 'it returns false'. Refute it at one input. -/
def slotsNamesWrong : ChangeSpec := { name := "slotsNames", fn := fun _ => fun
  | [d1, d2, d3] => { results := [.lit (.bool false)], args := [d1, d2, d3] }
  | _ => none }
def SlotsNamesWrongFalsely : Prop := slotsNamesRow.holds Tryd.pinned (OpenSpec.ofChange slotsNamesWrong)

/-- 'rebuslaw07.SlotsRuns': WHATEVER THE INPUT: true; the input reads as it did. -/
def slotsRunsSpec : ChangeSpec := { name := "slotsRuns", fn := fun _ => fun
  | [d] => { results := [.lit (.bool true)], args := [d] }
  | _ => none }
def slotsRunsRow : OpenClaim := { program := "ytilokjcbkhhifaadoor", sum := "bb6bd3bcc2be4e33bb4c70fe3d07eafdab1af3ea1df9915dd1a69935c75456bb", func := "rebus/rebuslaw07.SlotsRuns", spec := "slotsRuns", unfollowed := true, recurses := true, named := ["rebus/grid.ways", "internal/strconv.uint64pow10", "math/bits.deBruijn32tab", "math/bits.deBruijn64tab"], apart := false, laid := [("math/bits.deBruijn32tab", laid_math_bits_deBruijn32tab), ("math/bits.deBruijn64tab", laid_math_bits_deBruijn64tab), ("internal/strconv.uint64pow10", laid_internal_strconv_uint64pow10), ("rebus/grid.ways", laid_rebus_grid_ways)] }
def SlotsRunsSaid : Prop := slotsRunsRow.holds Tryd.pinned (OpenSpec.ofChange slotsRunsSpec)

/-- ITS FALSE NEIGHBOUR: 'it returns false'. Refute it at one input. -/
def slotsRunsWrong : ChangeSpec := { name := "slotsRuns", fn := fun _ => fun
  | [d] => { results := [.lit (.bool false)], args := [d] }
  | _ => none }
def SlotsRunsWrongFalsely : Prop := slotsRunsRow.holds Tryd.pinned (OpenSpec.ofChange slotsRunsWrong)

/-- 'rebuslaw07.SlotsSeats': WHATEVER THE INPUT: true; the input reads as it did. -/
def slotsSeatsSpec : ChangeSpec := { name := "slotsSeats", fn := fun _ => fun
  | [d] => { results := [.lit (.bool true)], args := [d] }
  | _ => none }
def slotsSeatsRow : OpenClaim := { program := "ytilokjcbkhhifaadoor", sum := "bb6bd3bcc2be4e33bb4c70fe3d07eafdab1af3ea1df9915dd1a69935c75456bb", func := "rebus/rebuslaw07.SlotsSeats", spec := "slotsSeats", unfollowed := true, recurses := true, named := ["rebus/grid.ways", "internal/strconv.uint64pow10", "math/bits.deBruijn32tab", "math/bits.deBruijn64tab"], apart := false, laid := [("math/bits.deBruijn32tab", laid_math_bits_deBruijn32tab), ("math/bits.deBruijn64tab", laid_math_bits_deBruijn64tab), ("internal/strconv.uint64pow10", laid_internal_strconv_uint64pow10), ("rebus/grid.ways", laid_rebus_grid_ways)] }
def SlotsSeatsSaid : Prop := slotsSeatsRow.holds Tryd.pinned (OpenSpec.ofChange slotsSeatsSpec)

/-- ITS FALSE NEIGHBOUR: 'it returns false'. Refute it at one input. -/
def slotsSeatsWrong : ChangeSpec := { name := "slotsSeats", fn := fun _ => fun
  | [d] => { results := [.lit (.bool false)], args := [d] }
  | _ => none }
def SlotsSeatsWrongFalsely : Prop := slotsSeatsRow.holds Tryd.pinned (OpenSpec.ofChange slotsSeatsWrong)

/-- 'rebuslaw07.SlotsTurned': WHATEVER THE INPUT: true; the input reads as it did. -/
def slotsTurnedSpec : ChangeSpec := { name := "slotsTurned", fn := fun _ => fun
  | [d1, d2] => { results := [.lit (.bool true)], args := [d1, d2] }
  | _ => none }
def slotsTurnedRow : OpenClaim := { program := "ytilokjcbkhhifaadoor", sum := "bb6bd3bcc2be4e33bb4c70fe3d07eafdab1af3ea1df9915dd1a69935c75456bb", func := "rebus/rebuslaw07.SlotsTurned", spec := "slotsTurned", unfollowed := true, recurses := true, named := ["rebus/grid.ways", "internal/strconv.uint64pow10", "math/bits.deBruijn32tab", "math/bits.deBruijn64tab"], apart := false, laid := [("math/bits.deBruijn32tab", laid_math_bits_deBruijn32tab), ("math/bits.deBruijn64tab", laid_math_bits_deBruijn64tab), ("internal/strconv.uint64pow10", laid_internal_strconv_uint64pow10), ("rebus/grid.ways", laid_rebus_grid_ways)] }
def SlotsTurnedSaid : Prop := slotsTurnedRow.holds Tryd.pinned (OpenSpec.ofChange slotsTurnedSpec)

/-- ITS FALSE NEIGHBOUR: 'it returns false'. Refute it at one input. -/
def slotsTurnedWrong : ChangeSpec := { name := "slotsTurned", fn := fun _ => fun
  | [d1, d2] => { results := [.lit (.bool false)], args := [d1, d2] }
  | _ => none }
def SlotsTurnedWrongFalsely : Prop := slotsTurnedRow.holds Tryd.pinned (OpenSpec.ofChange slotsTurnedWrong)

/- THE SECOND FORM. 'bulk': how many values and letters a reading holds, each counted each time it is reached (what is shared counts as often as it is met; a slice's spare places count too). A statement '..UptoSaid' is the law's where the arguments, and the package variables that the reading takes, are together of bulk at most 1048576: NARROWER than '..Said'. Prove '..Said' where nothing that the law and all that it calls make is longer than what came in: it says more and counts as full. Else prove '..UptoSaid'. A law counts once. -/
mutual
def uptoBulk {H : Type} : DataW H → Nat
  | .lit (.string bytes) => bytes.length + 1
  | .lit _ => 1
  | .nil => 1
  | .ptr d => uptoBulk d + 1
  | .slice elems spare => uptoBulkAll elems + uptoBulkAll spare + 1
  | .agg parts => uptoBulkAll parts + 1
  | .iface _ d => uptoBulk d + 1
  | .map entries => uptoBulkEntries entries + 1
  | .held _ => 1
def uptoBulkAll {H : Type} : List (DataW H) → Nat
  | [] => 0
  | d :: r => uptoBulk d + uptoBulkAll r
def uptoBulkEntries {H : Type} : List (Lit × DataW H) → Nat
  | [] => 0
  | x :: r => uptoBulkEntry x + uptoBulkEntries r
def uptoBulkEntry {H : Type} : Lit × DataW H → Nat
  | (.string bytes, d) => bytes.length + uptoBulk d + 1
  | (_, d) => uptoBulk d + 1
 end
def uptoSmall : (H : Type) → List (DataW H) → Bool := fun _ ds => decide (uptoBulkAll ds ≤ 1048576)
def OpenSpec.upto (s : _root_.Go.ChangeSpec) : _root_.Go.OpenSpec := { _root_.Go.OpenSpec.ofChange s with cond := some uptoSmall }

/-- 'rebuslaw07.SlotsLists', WHERE WHAT IT READS IS OF BULK AT MOST 1048576: true; the input reads as it did. -/
def slotsListsUptoRow : OpenClaim := { program := "ytilokjcbkhhifaadoor", sum := "bb6bd3bcc2be4e33bb4c70fe3d07eafdab1af3ea1df9915dd1a69935c75456bb", func := "rebus/rebuslaw07.SlotsLists", spec := "slotsLists", unfollowed := true, recurses := true, named := ["rebus/grid.ways", "internal/strconv.uint64pow10", "math/bits.deBruijn32tab", "math/bits.deBruijn64tab"], apart := false, laid := [("math/bits.deBruijn32tab", laid_math_bits_deBruijn32tab), ("math/bits.deBruijn64tab", laid_math_bits_deBruijn64tab), ("internal/strconv.uint64pow10", laid_internal_strconv_uint64pow10), ("rebus/grid.ways", laid_rebus_grid_ways)], narrowed := true }
def SlotsListsUptoSaid : Prop := slotsListsUptoRow.holds Tryd.pinned (OpenSpec.upto slotsListsSpec)

/-- 'rebuslaw07.SlotsAsks', WHERE WHAT IT READS IS OF BULK AT MOST 1048576: true; the input reads as it did. -/
def slotsAsksUptoRow : OpenClaim := { program := "ytilokjcbkhhifaadoor", sum := "bb6bd3bcc2be4e33bb4c70fe3d07eafdab1af3ea1df9915dd1a69935c75456bb", func := "rebus/rebuslaw07.SlotsAsks", spec := "slotsAsks", unfollowed := true, recurses := true, named := ["rebus/grid.ways", "internal/strconv.uint64pow10", "math/bits.deBruijn32tab", "math/bits.deBruijn64tab"], apart := false, laid := [("math/bits.deBruijn32tab", laid_math_bits_deBruijn32tab), ("math/bits.deBruijn64tab", laid_math_bits_deBruijn64tab), ("internal/strconv.uint64pow10", laid_internal_strconv_uint64pow10), ("rebus/grid.ways", laid_rebus_grid_ways)], narrowed := true }
def SlotsAsksUptoSaid : Prop := slotsAsksUptoRow.holds Tryd.pinned (OpenSpec.upto slotsAsksSpec)

/-- 'rebuslaw07.SlotsNames', WHERE WHAT IT READS IS OF BULK AT MOST 1048576: true; the input reads as it did. -/
def slotsNamesUptoRow : OpenClaim := { program := "ytilokjcbkhhifaadoor", sum := "bb6bd3bcc2be4e33bb4c70fe3d07eafdab1af3ea1df9915dd1a69935c75456bb", func := "rebus/rebuslaw07.SlotsNames", spec := "slotsNames", unfollowed := true, recurses := true, named := ["rebus/grid.ways", "internal/strconv.uint64pow10", "math/bits.deBruijn32tab", "math/bits.deBruijn64tab", "strconv.ErrSyntax", "strconv.ErrRange"], apart := false, laid := [("math/bits.deBruijn32tab", laid_math_bits_deBruijn32tab), ("math/bits.deBruijn64tab", laid_math_bits_deBruijn64tab), ("internal/strconv.uint64pow10", laid_internal_strconv_uint64pow10), ("strconv.ErrRange", laid_strconv_ErrRange), ("strconv.ErrSyntax", laid_strconv_ErrSyntax), ("rebus/grid.ways", laid_rebus_grid_ways)], narrowed := true }
def SlotsNamesUptoSaid : Prop := slotsNamesUptoRow.holds Tryd.pinned (OpenSpec.upto slotsNamesSpec)

/-- 'rebuslaw07.SlotsRuns', WHERE WHAT IT READS IS OF BULK AT MOST 1048576: true; the input reads as it did. -/
def slotsRunsUptoRow : OpenClaim := { program := "ytilokjcbkhhifaadoor", sum := "bb6bd3bcc2be4e33bb4c70fe3d07eafdab1af3ea1df9915dd1a69935c75456bb", func := "rebus/rebuslaw07.SlotsRuns", spec := "slotsRuns", unfollowed := true, recurses := true, named := ["rebus/grid.ways", "internal/strconv.uint64pow10", "math/bits.deBruijn32tab", "math/bits.deBruijn64tab"], apart := false, laid := [("math/bits.deBruijn32tab", laid_math_bits_deBruijn32tab), ("math/bits.deBruijn64tab", laid_math_bits_deBruijn64tab), ("internal/strconv.uint64pow10", laid_internal_strconv_uint64pow10), ("rebus/grid.ways", laid_rebus_grid_ways)], narrowed := true }
def SlotsRunsUptoSaid : Prop := slotsRunsUptoRow.holds Tryd.pinned (OpenSpec.upto slotsRunsSpec)

/-- 'rebuslaw07.SlotsSeats', WHERE WHAT IT READS IS OF BULK AT MOST 1048576: true; the input reads as it did. -/
def slotsSeatsUptoRow : OpenClaim := { program := "ytilokjcbkhhifaadoor", sum := "bb6bd3bcc2be4e33bb4c70fe3d07eafdab1af3ea1df9915dd1a69935c75456bb", func := "rebus/rebuslaw07.SlotsSeats", spec := "slotsSeats", unfollowed := true, recurses := true, named := ["rebus/grid.ways", "internal/strconv.uint64pow10", "math/bits.deBruijn32tab", "math/bits.deBruijn64tab"], apart := false, laid := [("math/bits.deBruijn32tab", laid_math_bits_deBruijn32tab), ("math/bits.deBruijn64tab", laid_math_bits_deBruijn64tab), ("internal/strconv.uint64pow10", laid_internal_strconv_uint64pow10), ("rebus/grid.ways", laid_rebus_grid_ways)], narrowed := true }
def SlotsSeatsUptoSaid : Prop := slotsSeatsUptoRow.holds Tryd.pinned (OpenSpec.upto slotsSeatsSpec)

/-- 'rebuslaw07.SlotsTurned', WHERE WHAT IT READS IS OF BULK AT MOST 1048576: true; the input reads as it did. -/
def slotsTurnedUptoRow : OpenClaim := { program := "ytilokjcbkhhifaadoor", sum := "bb6bd3bcc2be4e33bb4c70fe3d07eafdab1af3ea1df9915dd1a69935c75456bb", func := "rebus/rebuslaw07.SlotsTurned", spec := "slotsTurned", unfollowed := true, recurses := true, named := ["rebus/grid.ways", "internal/strconv.uint64pow10", "math/bits.deBruijn32tab", "math/bits.deBruijn64tab"], apart := false, laid := [("math/bits.deBruijn32tab", laid_math_bits_deBruijn32tab), ("math/bits.deBruijn64tab", laid_math_bits_deBruijn64tab), ("internal/strconv.uint64pow10", laid_internal_strconv_uint64pow10), ("rebus/grid.ways", laid_rebus_grid_ways)], narrowed := true }
def SlotsTurnedUptoSaid : Prop := slotsTurnedUptoRow.holds Tryd.pinned (OpenSpec.upto slotsTurnedSpec)

end Rows
end Go.Proofs.YtilokjcbkhhifaaDoor
