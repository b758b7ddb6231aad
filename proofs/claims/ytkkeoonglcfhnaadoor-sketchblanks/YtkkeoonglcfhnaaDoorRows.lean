/-
  NARROWER THAN 'FOR EVERY INPUT', by the rows' own cells (each row's printed sentence says how): SlotsLists: laid · SketchReads: laid · SketchWrites: laid · SketchCanon: laid · SketchBlanks: laid · WholeGrids: laid.
  DERIVED. THE GIVEN ROWS OF THIS SEAT. 6 by the template 'for every input the law returns true; each argument reads behind the call as it read before'; 0 by the template 'total and deterministic' (their statements: YtkkeoonglcfhnaaDoorTotals.lean).
  GIVEN WITH THE SEED: the statements are not yours to turn. If you find one false, say at which input.
  Laid BY PROGRAM, IN A SANDBOX (cutbox-rows.mjs): the forced cells as the released guide's own fill.sh prints them over the translation e67bf00d27790ece… (all of the seat's roots in one cut). By AI agents, Wed Nov 11 2026. No macro, syntax, notation, axiom, sorry.
-/
import Derived.Test.YtkkeoonglcfhnaaDoorChecked
import GoSem.PinnedTables
import GoSem.Claim
import GoSem.ClaimJoined
import GoSem.ClaimMapViews
import Derived.JoinedTies
import Derived.KernelRfl
namespace Go.Proofs.YtkkeoonglcfhnaaDoor
/- THE CELL 'sum', in the pinned program and in every row, IS THE sha256 OF THE DUMP (.gsa) THAT YtkkeoonglcfhnaaDoorProg.lean LOADS. Nothing in Lean hashes anything: it is a label: what it is worth is what the hold of that sum in a sandbox is worth. -/
noncomputable def Tryd.pinned : Pinned := { name := "ytkkeoonglcfhnaadoor", sum := "e67bf00d27790ece70ce45b02ca8bd347fbf5319a0d66a77783c8f5b50866db4", checked := Tryd.checked }
namespace Rows
def none {H : Type} : Left H := { results := [], args := [] }

/- WHAT THE LISTED PACKAGE-LEVEL VARIABLES READ AS WHEN THE CALL BEGINS. Each datum BY PROGRAM (the guide's laid-datum.mjs) off the statement by which the dump's own 'gosem.cut.vars' lays the variable. In a bare row this is a premise. The card (YtkkeoonglcfhnaaDoorCards.lean) ties it to the program's text. -/
def laid_math_bits_deBruijn32tab {H : Type} : DataW H := .agg [.lit (.int .u8 0), .lit (.int .u8 1), .lit (.int .u8 28), .lit (.int .u8 2), .lit (.int .u8 29), .lit (.int .u8 14), .lit (.int .u8 24), .lit (.int .u8 3), .lit (.int .u8 30), .lit (.int .u8 22), .lit (.int .u8 20), .lit (.int .u8 15), .lit (.int .u8 25), .lit (.int .u8 17), .lit (.int .u8 4), .lit (.int .u8 8), .lit (.int .u8 31), .lit (.int .u8 27), .lit (.int .u8 13), .lit (.int .u8 23), .lit (.int .u8 21), .lit (.int .u8 19), .lit (.int .u8 16), .lit (.int .u8 7), .lit (.int .u8 26), .lit (.int .u8 12), .lit (.int .u8 18), .lit (.int .u8 6), .lit (.int .u8 11), .lit (.int .u8 5), .lit (.int .u8 10), .lit (.int .u8 9)]
def laid_math_bits_deBruijn64tab {H : Type} : DataW H := .agg [.lit (.int .u8 0), .lit (.int .u8 1), .lit (.int .u8 56), .lit (.int .u8 2), .lit (.int .u8 57), .lit (.int .u8 49), .lit (.int .u8 28), .lit (.int .u8 3), .lit (.int .u8 61), .lit (.int .u8 58), .lit (.int .u8 42), .lit (.int .u8 50), .lit (.int .u8 38), .lit (.int .u8 29), .lit (.int .u8 17), .lit (.int .u8 4), .lit (.int .u8 62), .lit (.int .u8 47), .lit (.int .u8 59), .lit (.int .u8 36), .lit (.int .u8 45), .lit (.int .u8 43), .lit (.int .u8 51), .lit (.int .u8 22), .lit (.int .u8 53), .lit (.int .u8 39), .lit (.int .u8 33), .lit (.int .u8 30), .lit (.int .u8 24), .lit (.int .u8 18), .lit (.int .u8 12), .lit (.int .u8 5), .lit (.int .u8 63), .lit (.int .u8 55), .lit (.int .u8 48), .lit (.int .u8 27), .lit (.int .u8 60), .lit (.int .u8 41), .lit (.int .u8 37), .lit (.int .u8 16), .lit (.int .u8 46), .lit (.int .u8 35), .lit (.int .u8 44), .lit (.int .u8 21), .lit (.int .u8 52), .lit (.int .u8 32), .lit (.int .u8 23), .lit (.int .u8 11), .lit (.int .u8 54), .lit (.int .u8 26), .lit (.int .u8 40), .lit (.int .u8 15), .lit (.int .u8 34), .lit (.int .u8 20), .lit (.int .u8 31), .lit (.int .u8 10), .lit (.int .u8 25), .lit (.int .u8 14), .lit (.int .u8 19), .lit (.int .u8 9), .lit (.int .u8 13), .lit (.int .u8 8), .lit (.int .u8 7), .lit (.int .u8 6)]
def laid_internal_strconv_uint64pow10 {H : Type} : DataW H := .agg [.lit (.int .u64 1), .lit (.int .u64 10), .lit (.int .u64 100), .lit (.int .u64 1000), .lit (.int .u64 10000), .lit (.int .u64 100000), .lit (.int .u64 1000000), .lit (.int .u64 10000000), .lit (.int .u64 100000000), .lit (.int .u64 1000000000), .lit (.int .u64 10000000000), .lit (.int .u64 100000000000), .lit (.int .u64 1000000000000), .lit (.int .u64 10000000000000), .lit (.int .u64 100000000000000), .lit (.int .u64 1000000000000000), .lit (.int .u64 10000000000000000), .lit (.int .u64 100000000000000000), .lit (.int .u64 1000000000000000000), .lit (.int .u64 10000000000000000000)]
def laid_rebus_grid_ways {H : Type} : DataW H := .agg [.agg [.lit (.int .i64 0), .lit (.int .i64 1)], .agg [.lit (.int .i64 1), .lit (.int .i64 0)], .agg [.lit (.int .i64 0), .lit (.int .i64 (-1))], .agg [.lit (.int .i64 (-1)), .lit (.int .i64 0)]]
def laid_unicode_utf8_acceptRanges {H : Type} : DataW H := .agg [.agg [.lit (.int .u8 128), .lit (.int .u8 191)], .agg [.lit (.int .u8 160), .lit (.int .u8 191)], .agg [.lit (.int .u8 128), .lit (.int .u8 159)], .agg [.lit (.int .u8 144), .lit (.int .u8 191)], .agg [.lit (.int .u8 128), .lit (.int .u8 143)], .agg [.lit (.int .u8 0), .lit (.int .u8 0)], .agg [.lit (.int .u8 0), .lit (.int .u8 0)], .agg [.lit (.int .u8 0), .lit (.int .u8 0)], .agg [.lit (.int .u8 0), .lit (.int .u8 0)], .agg [.lit (.int .u8 0), .lit (.int .u8 0)], .agg [.lit (.int .u8 0), .lit (.int .u8 0)], .agg [.lit (.int .u8 0), .lit (.int .u8 0)], .agg [.lit (.int .u8 0), .lit (.int .u8 0)], .agg [.lit (.int .u8 0), .lit (.int .u8 0)], .agg [.lit (.int .u8 0), .lit (.int .u8 0)], .agg [.lit (.int .u8 0), .lit (.int .u8 0)]]
/-- One of Go's own tables, pinned by name: the form's constant. -/
def laid_unicode_utf8_first : DataW Unit := Go.Pinned.utf8First

/-- 'rebuslaw07.SlotsLists': WHATEVER THE INPUT: true; the input reads as it did. -/
def slotsListsSpec : ChangeSpec := { name := "slotsLists", fn := fun _ => fun
  | [d] => { results := [.lit (.bool true)], args := [d] }
  | _ => none }
def slotsListsRow : OpenClaim := { program := "ytkkeoonglcfhnaadoor", sum := "e67bf00d27790ece70ce45b02ca8bd347fbf5319a0d66a77783c8f5b50866db4", func := "rebus/rebuslaw07.SlotsLists", spec := "slotsLists", unfollowed := true, recurses := true, named := ["rebus/grid.ways", "internal/strconv.uint64pow10", "math/bits.deBruijn32tab", "math/bits.deBruijn64tab"], apart := false, laid := [("math/bits.deBruijn32tab", laid_math_bits_deBruijn32tab), ("math/bits.deBruijn64tab", laid_math_bits_deBruijn64tab), ("internal/strconv.uint64pow10", laid_internal_strconv_uint64pow10), ("rebus/grid.ways", laid_rebus_grid_ways)] }
def SlotsListsSaid : Prop := slotsListsRow.holds Tryd.pinned (OpenSpec.ofChange slotsListsSpec)

/-- ITS FALSE NEIGHBOUR: 'it returns false'. Refute it at one input. -/
def slotsListsWrong : ChangeSpec := { name := "slotsLists", fn := fun _ => fun
  | [d] => { results := [.lit (.bool false)], args := [d] }
  | _ => none }
def SlotsListsWrongFalsely : Prop := slotsListsRow.holds Tryd.pinned (OpenSpec.ofChange slotsListsWrong)

/-- 'rebuslaw08.SketchReads': WHATEVER THE INPUT: true; the input reads as it did. -/
def sketchReadsSpec : ChangeSpec := { name := "sketchReads", fn := fun _ => fun
  | [d] => { results := [.lit (.bool true)], args := [d] }
  | _ => none }
def sketchReadsRow : OpenClaim := { program := "ytkkeoonglcfhnaadoor", sum := "e67bf00d27790ece70ce45b02ca8bd347fbf5319a0d66a77783c8f5b50866db4", func := "rebus/rebuslaw08.SketchReads", spec := "sketchReads", inPlace := ["internal/abi.NoEscape"], named := ["unicode/utf8.first", "unicode/utf8.acceptRanges", "rebus/grid.ways"], apart := false, laid := [("unicode/utf8.acceptRanges", laid_unicode_utf8_acceptRanges), ("rebus/grid.ways", laid_rebus_grid_ways), ("unicode/utf8.first", laid_unicode_utf8_first)] }
def SketchReadsSaid : Prop := sketchReadsRow.holds Tryd.pinned (OpenSpec.ofChange sketchReadsSpec)

/-- ITS FALSE NEIGHBOUR: 'it returns false'. Refute it at one input. -/
def sketchReadsWrong : ChangeSpec := { name := "sketchReads", fn := fun _ => fun
  | [d] => { results := [.lit (.bool false)], args := [d] }
  | _ => none }
def SketchReadsWrongFalsely : Prop := sketchReadsRow.holds Tryd.pinned (OpenSpec.ofChange sketchReadsWrong)

/-- 'rebuslaw08.SketchWrites': WHATEVER THE INPUT: true; the input reads as it did. -/
def sketchWritesSpec : ChangeSpec := { name := "sketchWrites", fn := fun _ => fun
  | [d] => { results := [.lit (.bool true)], args := [d] }
  | _ => none }
def sketchWritesRow : OpenClaim := { program := "ytkkeoonglcfhnaadoor", sum := "e67bf00d27790ece70ce45b02ca8bd347fbf5319a0d66a77783c8f5b50866db4", func := "rebus/rebuslaw08.SketchWrites", spec := "sketchWrites", inPlace := ["internal/abi.NoEscape"], named := ["unicode/utf8.first", "unicode/utf8.acceptRanges", "rebus/grid.ways"], apart := false, laid := [("unicode/utf8.acceptRanges", laid_unicode_utf8_acceptRanges), ("rebus/grid.ways", laid_rebus_grid_ways), ("unicode/utf8.first", laid_unicode_utf8_first)] }
def SketchWritesSaid : Prop := sketchWritesRow.holds Tryd.pinned (OpenSpec.ofChange sketchWritesSpec)

/-- ITS FALSE NEIGHBOUR: 'it returns false'. Refute it at one input. -/
def sketchWritesWrong : ChangeSpec := { name := "sketchWrites", fn := fun _ => fun
  | [d] => { results := [.lit (.bool false)], args := [d] }
  | _ => none }
def SketchWritesWrongFalsely : Prop := sketchWritesRow.holds Tryd.pinned (OpenSpec.ofChange sketchWritesWrong)

/-- 'rebuslaw08.SketchCanon': WHATEVER THE INPUT: true; the input reads as it did. -/
def sketchCanonSpec : ChangeSpec := { name := "sketchCanon", fn := fun _ => fun
  | [d] => { results := [.lit (.bool true)], args := [d] }
  | _ => none }
def sketchCanonRow : OpenClaim := { program := "ytkkeoonglcfhnaadoor", sum := "e67bf00d27790ece70ce45b02ca8bd347fbf5319a0d66a77783c8f5b50866db4", func := "rebus/rebuslaw08.SketchCanon", spec := "sketchCanon", inPlace := ["internal/abi.NoEscape"], named := ["unicode/utf8.first", "unicode/utf8.acceptRanges", "rebus/grid.ways"], apart := false, laid := [("unicode/utf8.acceptRanges", laid_unicode_utf8_acceptRanges), ("rebus/grid.ways", laid_rebus_grid_ways), ("unicode/utf8.first", laid_unicode_utf8_first)] }
def SketchCanonSaid : Prop := sketchCanonRow.holds Tryd.pinned (OpenSpec.ofChange sketchCanonSpec)

/-- ITS FALSE NEIGHBOUR: 'it returns false'. Refute it at one input. -/
def sketchCanonWrong : ChangeSpec := { name := "sketchCanon", fn := fun _ => fun
  | [d] => { results := [.lit (.bool false)], args := [d] }
  | _ => none }
def SketchCanonWrongFalsely : Prop := sketchCanonRow.holds Tryd.pinned (OpenSpec.ofChange sketchCanonWrong)

/-- 'rebuslaw08.SketchBlanks': WHATEVER THE INPUT: true; the input reads as it did. -/
def sketchBlanksSpec : ChangeSpec := { name := "sketchBlanks", fn := fun _ => fun
  | [d1, d2] => { results := [.lit (.bool true)], args := [d1, d2] }
  | _ => none }
def sketchBlanksRow : OpenClaim := { program := "ytkkeoonglcfhnaadoor", sum := "e67bf00d27790ece70ce45b02ca8bd347fbf5319a0d66a77783c8f5b50866db4", func := "rebus/rebuslaw08.SketchBlanks", spec := "sketchBlanks", inPlace := ["internal/abi.NoEscape"], named := ["unicode/utf8.first", "unicode/utf8.acceptRanges", "rebus/grid.ways"], apart := false, laid := [("unicode/utf8.acceptRanges", laid_unicode_utf8_acceptRanges), ("rebus/grid.ways", laid_rebus_grid_ways), ("unicode/utf8.first", laid_unicode_utf8_first)] }
def SketchBlanksSaid : Prop := sketchBlanksRow.holds Tryd.pinned (OpenSpec.ofChange sketchBlanksSpec)

/-- ITS FALSE NEIGHBOUR: 'it returns false'. Refute it at one input. -/
def sketchBlanksWrong : ChangeSpec := { name := "sketchBlanks", fn := fun _ => fun
  | [d1, d2] => { results := [.lit (.bool false)], args := [d1, d2] }
  | _ => none }
def SketchBlanksWrongFalsely : Prop := sketchBlanksRow.holds Tryd.pinned (OpenSpec.ofChange sketchBlanksWrong)

/-- 'rebustop.WholeGrids': WHATEVER THE INPUT: true; the input reads as it did. -/
def wholeGridsSpec : ChangeSpec := { name := "wholeGrids", fn := fun _ => fun
  | [d1, d2] => { results := [.lit (.bool true)], args := [d1, d2] }
  | _ => none }
def wholeGridsRow : OpenClaim := { program := "ytkkeoonglcfhnaadoor", sum := "e67bf00d27790ece70ce45b02ca8bd347fbf5319a0d66a77783c8f5b50866db4", func := "rebus/rebustop.WholeGrids", spec := "wholeGrids", inPlace := ["internal/abi.NoEscape"], unfollowed := true, recurses := true, named := ["rebus/grid.ways", "unicode/utf8.first", "unicode/utf8.acceptRanges"], apart := false, laid := [("unicode/utf8.acceptRanges", laid_unicode_utf8_acceptRanges), ("rebus/grid.ways", laid_rebus_grid_ways), ("unicode/utf8.first", laid_unicode_utf8_first)] }
def WholeGridsSaid : Prop := wholeGridsRow.holds Tryd.pinned (OpenSpec.ofChange wholeGridsSpec)

/-- ITS FALSE NEIGHBOUR: 'it returns false'. Refute it at one input. -/
def wholeGridsWrong : ChangeSpec := { name := "wholeGrids", fn := fun _ => fun
  | [d1, d2] => { results := [.lit (.bool false)], args := [d1, d2] }
  | _ => none }
def WholeGridsWrongFalsely : Prop := wholeGridsRow.holds Tryd.pinned (OpenSpec.ofChange wholeGridsWrong)

/- THE SECOND FORM. 'bulk': how many values and letters a reading holds, each counted each time it is reached (what is shared counts as often as it is met; a slice's spare places count too). A statement '..UptoSaid' is the law's where the arguments, and the package variables that the reading takes, are together of bulk at most 1048576: NARROWER than '..Said'. Prove '..Said' where nothing that the law and all that it calls make is longer than what came in: it says more and counts as full. Else prove '..UptoSaid'. A law counts once. -/
mutual
def uptoBulk {H : Type} : DataW H → Nat
  | .lit (.string bytes) => bytes.length + 1
  | .lit _ => 1
  | .nil => 1
  | .ptr d => uptoBulk d + 1
  | .slice elems spare => uptoBulkAll elems + uptoBulkAll spare + 1
  | .agg parts => uptoBulkAll parts + 1
  | .iface _ d => uptoBulk d + 1
  | .map entries => uptoBulkEntries entries + 1
  | .held _ => 1
def uptoBulkAll {H : Type} : List (DataW H) → Nat
  | [] => 0
  | d :: r => uptoBulk d + uptoBulkAll r
def uptoBulkEntries {H : Type} : List (Lit × DataW H) → Nat
  | [] => 0
  | x :: r => uptoBulkEntry x + uptoBulkEntries r
def uptoBulkEntry {H : Type} : Lit × DataW H → Nat
  | (.string bytes, d) => bytes.length + uptoBulk d + 1
  | (_, d) => uptoBulk d + 1
 end
def uptoSmall : (H : Type) → List (DataW H) → Bool := fun _ ds => decide (uptoBulkAll ds ≤ 1048576)
def OpenSpec.upto (s : _root_.Go.ChangeSpec) : _root_.Go.OpenSpec := { _root_.Go.OpenSpec.ofChange s with cond := some uptoSmall }

/-- 'rebuslaw07.SlotsLists', WHERE WHAT IT READS IS OF BULK AT MOST 1048576: true; the input reads as it did. -/
def slotsListsUptoRow : OpenClaim := { program := "ytkkeoonglcfhnaadoor", sum := "e67bf00d27790ece70ce45b02ca8bd347fbf5319a0d66a77783c8f5b50866db4", func := "rebus/rebuslaw07.SlotsLists", spec := "slotsLists", unfollowed := true, recurses := true, named := ["rebus/grid.ways", "internal/strconv.uint64pow10", "math/bits.deBruijn32tab", "math/bits.deBruijn64tab"], apart := false, laid := [("math/bits.deBruijn32tab", laid_math_bits_deBruijn32tab), ("math/bits.deBruijn64tab", laid_math_bits_deBruijn64tab), ("internal/strconv.uint64pow10", laid_internal_strconv_uint64pow10), ("rebus/grid.ways", laid_rebus_grid_ways)], narrowed := true }
def SlotsListsUptoSaid : Prop := slotsListsUptoRow.holds Tryd.pinned (OpenSpec.upto slotsListsSpec)

/-- 'rebuslaw08.SketchReads', WHERE WHAT IT READS IS OF BULK AT MOST 1048576: true; the input reads as it did. -/
def sketchReadsUptoRow : OpenClaim := { program := "ytkkeoonglcfhnaadoor", sum := "e67bf00d27790ece70ce45b02ca8bd347fbf5319a0d66a77783c8f5b50866db4", func := "rebus/rebuslaw08.SketchReads", spec := "sketchReads", inPlace := ["internal/abi.NoEscape"], named := ["unicode/utf8.first", "unicode/utf8.acceptRanges", "rebus/grid.ways"], apart := false, laid := [("unicode/utf8.acceptRanges", laid_unicode_utf8_acceptRanges), ("rebus/grid.ways", laid_rebus_grid_ways), ("unicode/utf8.first", laid_unicode_utf8_first)], narrowed := true }
def SketchReadsUptoSaid : Prop := sketchReadsUptoRow.holds Tryd.pinned (OpenSpec.upto sketchReadsSpec)

/-- 'rebuslaw08.SketchWrites', WHERE WHAT IT READS IS OF BULK AT MOST 1048576: true; the input reads as it did. -/
def sketchWritesUptoRow : OpenClaim := { program := "ytkkeoonglcfhnaadoor", sum := "e67bf00d27790ece70ce45b02ca8bd347fbf5319a0d66a77783c8f5b50866db4", func := "rebus/rebuslaw08.SketchWrites", spec := "sketchWrites", inPlace := ["internal/abi.NoEscape"], named := ["unicode/utf8.first", "unicode/utf8.acceptRanges", "rebus/grid.ways"], apart := false, laid := [("unicode/utf8.acceptRanges", laid_unicode_utf8_acceptRanges), ("rebus/grid.ways", laid_rebus_grid_ways), ("unicode/utf8.first", laid_unicode_utf8_first)], narrowed := true }
def SketchWritesUptoSaid : Prop := sketchWritesUptoRow.holds Tryd.pinned (OpenSpec.upto sketchWritesSpec)

/-- 'rebuslaw08.SketchCanon', WHERE WHAT IT READS IS OF BULK AT MOST 1048576: true; the input reads as it did. -/
def sketchCanonUptoRow : OpenClaim := { program := "ytkkeoonglcfhnaadoor", sum := "e67bf00d27790ece70ce45b02ca8bd347fbf5319a0d66a77783c8f5b50866db4", func := "rebus/rebuslaw08.SketchCanon", spec := "sketchCanon", inPlace := ["internal/abi.NoEscape"], named := ["unicode/utf8.first", "unicode/utf8.acceptRanges", "rebus/grid.ways"], apart := false, laid := [("unicode/utf8.acceptRanges", laid_unicode_utf8_acceptRanges), ("rebus/grid.ways", laid_rebus_grid_ways), ("unicode/utf8.first", laid_unicode_utf8_first)], narrowed := true }
def SketchCanonUptoSaid : Prop := sketchCanonUptoRow.holds Tryd.pinned (OpenSpec.upto sketchCanonSpec)

/-- 'rebuslaw08.SketchBlanks', WHERE WHAT IT READS IS OF BULK AT MOST 1048576: true; the input reads as it did. -/
def sketchBlanksUptoRow : OpenClaim := { program := "ytkkeoonglcfhnaadoor", sum := "e67bf00d27790ece70ce45b02ca8bd347fbf5319a0d66a77783c8f5b50866db4", func := "rebus/rebuslaw08.SketchBlanks", spec := "sketchBlanks", inPlace := ["internal/abi.NoEscape"], named := ["unicode/utf8.first", "unicode/utf8.acceptRanges", "rebus/grid.ways"], apart := false, laid := [("unicode/utf8.acceptRanges", laid_unicode_utf8_acceptRanges), ("rebus/grid.ways", laid_rebus_grid_ways), ("unicode/utf8.first", laid_unicode_utf8_first)], narrowed := true }
def SketchBlanksUptoSaid : Prop := sketchBlanksUptoRow.holds Tryd.pinned (OpenSpec.upto sketchBlanksSpec)

/-- 'rebustop.WholeGrids', WHERE WHAT IT READS IS OF BULK AT MOST 1048576: true; the input reads as it did. -/
def wholeGridsUptoRow : OpenClaim := { program := "ytkkeoonglcfhnaadoor", sum := "e67bf00d27790ece70ce45b02ca8bd347fbf5319a0d66a77783c8f5b50866db4", func := "rebus/rebustop.WholeGrids", spec := "wholeGrids", inPlace := ["internal/abi.NoEscape"], unfollowed := true, recurses := true, named := ["rebus/grid.ways", "unicode/utf8.first", "unicode/utf8.acceptRanges"], apart := false, laid := [("unicode/utf8.acceptRanges", laid_unicode_utf8_acceptRanges), ("rebus/grid.ways", laid_rebus_grid_ways), ("unicode/utf8.first", laid_unicode_utf8_first)], narrowed := true }
def WholeGridsUptoSaid : Prop := wholeGridsUptoRow.holds Tryd.pinned (OpenSpec.upto wholeGridsSpec)

end Rows
end Go.Proofs.YtkkeoonglcfhnaaDoor
