/-
  NARROWER THAN 'FOR EVERY INPUT', by the rows' own cells (each row's printed sentence says how): TurnGrids: laid · TurnGroup: laid · TurnSymmetries: laid · TurnCanon: laid.
  DERIVED. THE GIVEN ROWS OF THIS SEAT. 4 by the template 'for every input the law returns true; each argument reads behind the call as it read before'; 0 by the template 'total and deterministic' (their statements: YtgpnnnhhidbajaaDoorTotals.lean).
  GIVEN WITH THE SEED: the statements are not yours to turn. If you find one false, say at which input.
  Laid BY PROGRAM, IN A SANDBOX (cutbox-rows.mjs): the forced cells as the released guide's own fill.sh prints them over the translation 27a8704ca54d0b9e… (all of the seat's roots in one cut). By AI agents, Wed Nov 11 2026. No macro, syntax, notation, axiom, sorry.
-/
import Derived.Test.YtgpnnnhhidbajaaDoorChecked
import GoSem.Claim
import GoSem.ClaimJoined
import GoSem.ClaimMapViews
import Derived.JoinedTies
import Derived.KernelRfl
namespace Go.Proofs.YtgpnnnhhidbajaaDoor
/- THE CELL 'sum', in the pinned program and in every row, IS THE sha256 OF THE DUMP (.gsa) THAT YtgpnnnhhidbajaaDoorProg.lean LOADS. Nothing in Lean hashes anything: it is a label: what it is worth is what the hold of that sum in a sandbox is worth. -/
noncomputable def Tryd.pinned : Pinned := { name := "ytgpnnnhhidbajaadoor", sum := "27a8704ca54d0b9edbfd9186f4ca5d4a080d914578447b491c8707616367ea48", checked := Tryd.checked }
namespace Rows
def none {H : Type} : Left H := { results := [], args := [] }

/- WHAT THE LISTED PACKAGE-LEVEL VARIABLES READ AS WHEN THE CALL BEGINS. Each datum BY PROGRAM (the guide's laid-datum.mjs) off the statement by which the dump's own 'gosem.cut.vars' lays the variable. In a bare row this is a premise. The card (YtgpnnnhhidbajaaDoorCards.lean) ties it to the program's text. -/
def laid_rebus_grid_ways {H : Type} : DataW H := .agg [.agg [.lit (.int .i64 0), .lit (.int .i64 1)], .agg [.lit (.int .i64 1), .lit (.int .i64 0)], .agg [.lit (.int .i64 0), .lit (.int .i64 (-1))], .agg [.lit (.int .i64 (-1)), .lit (.int .i64 0)]]

/-- 'rebuslaw06.TurnGrids': WHATEVER THE INPUT: true; the input reads as it did. -/
def turnGridsSpec : ChangeSpec := { name := "turnGrids", fn := fun _ => fun
  | [d1, d2] => { results := [.lit (.bool true)], args := [d1, d2] }
  | _ => none }
def turnGridsRow : OpenClaim := { program := "ytgpnnnhhidbajaadoor", sum := "27a8704ca54d0b9edbfd9186f4ca5d4a080d914578447b491c8707616367ea48", func := "rebus/rebuslaw06.TurnGrids", spec := "turnGrids", unfollowed := true, recurses := true, named := ["rebus/grid.ways"], apart := false, laid := [("rebus/grid.ways", laid_rebus_grid_ways)] }
def TurnGridsSaid : Prop := turnGridsRow.holds Tryd.pinned (OpenSpec.ofChange turnGridsSpec)

/-- ITS FALSE NEIGHBOUR: 'it returns false'. Refute it at one input. -/
def turnGridsWrong : ChangeSpec := { name := "turnGrids", fn := fun _ => fun
  | [d1, d2] => { results := [.lit (.bool false)], args := [d1, d2] }
  | _ => none }
def TurnGridsWrongFalsely : Prop := turnGridsRow.holds Tryd.pinned (OpenSpec.ofChange turnGridsWrong)

/-- 'rebuslaw06.TurnGroup': WHATEVER THE INPUT: true; the input reads as it did. -/
def turnGroupSpec : ChangeSpec := { name := "turnGroup", fn := fun _ => fun
  | [d1, d2] => { results := [.lit (.bool true)], args := [d1, d2] }
  | _ => none }
def turnGroupRow : OpenClaim := { program := "ytgpnnnhhidbajaadoor", sum := "27a8704ca54d0b9edbfd9186f4ca5d4a080d914578447b491c8707616367ea48", func := "rebus/rebuslaw06.TurnGroup", spec := "turnGroup", named := ["rebus/grid.ways"], apart := false, laid := [("rebus/grid.ways", laid_rebus_grid_ways)] }
def TurnGroupSaid : Prop := turnGroupRow.holds Tryd.pinned (OpenSpec.ofChange turnGroupSpec)

/-- ITS FALSE NEIGHBOUR: 'it returns false'. Refute it at one input. -/
def turnGroupWrong : ChangeSpec := { name := "turnGroup", fn := fun _ => fun
  | [d1, d2] => { results := [.lit (.bool false)], args := [d1, d2] }
  | _ => none }
def TurnGroupWrongFalsely : Prop := turnGroupRow.holds Tryd.pinned (OpenSpec.ofChange turnGroupWrong)

/-- 'rebuslaw06.TurnSymmetries': WHATEVER THE INPUT: true; the input reads as it did. -/
def turnSymmetriesSpec : ChangeSpec := { name := "turnSymmetries", fn := fun _ => fun
  | [d] => { results := [.lit (.bool true)], args := [d] }
  | _ => none }
def turnSymmetriesRow : OpenClaim := { program := "ytgpnnnhhidbajaadoor", sum := "27a8704ca54d0b9edbfd9186f4ca5d4a080d914578447b491c8707616367ea48", func := "rebus/rebuslaw06.TurnSymmetries", spec := "turnSymmetries", unfollowed := true, recurses := true, named := ["rebus/grid.ways"], apart := false, laid := [("rebus/grid.ways", laid_rebus_grid_ways)] }
def TurnSymmetriesSaid : Prop := turnSymmetriesRow.holds Tryd.pinned (OpenSpec.ofChange turnSymmetriesSpec)

/-- ITS FALSE NEIGHBOUR: 'it returns false'. Refute it at one input. -/
def turnSymmetriesWrong : ChangeSpec := { name := "turnSymmetries", fn := fun _ => fun
  | [d] => { results := [.lit (.bool false)], args := [d] }
  | _ => none }
def TurnSymmetriesWrongFalsely : Prop := turnSymmetriesRow.holds Tryd.pinned (OpenSpec.ofChange turnSymmetriesWrong)

/-- 'rebuslaw06.TurnCanon': WHATEVER THE INPUT: true; the input reads as it did. -/
def turnCanonSpec : ChangeSpec := { name := "turnCanon", fn := fun _ => fun
  | [d1, d2] => { results := [.lit (.bool true)], args := [d1, d2] }
  | _ => none }
def turnCanonRow : OpenClaim := { program := "ytgpnnnhhidbajaadoor", sum := "27a8704ca54d0b9edbfd9186f4ca5d4a080d914578447b491c8707616367ea48", func := "rebus/rebuslaw06.TurnCanon", spec := "turnCanon", unfollowed := true, recurses := true, named := ["rebus/grid.ways"], apart := false, laid := [("rebus/grid.ways", laid_rebus_grid_ways)] }
def TurnCanonSaid : Prop := turnCanonRow.holds Tryd.pinned (OpenSpec.ofChange turnCanonSpec)

/-- ITS FALSE NEIGHBOUR: 'it returns false'. Refute it at one input. -/
def turnCanonWrong : ChangeSpec := { name := "turnCanon", fn := fun _ => fun
  | [d1, d2] => { results := [.lit (.bool false)], args := [d1, d2] }
  | _ => none }
def TurnCanonWrongFalsely : Prop := turnCanonRow.holds Tryd.pinned (OpenSpec.ofChange turnCanonWrong)

/- THE SECOND FORM. 'bulk': how many values and letters a reading holds, each counted each time it is reached (what is shared counts as often as it is met; a slice's spare places count too). A statement '..UptoSaid' is the law's where the arguments, and the package variables that the reading takes, are together of bulk at most 1048576: NARROWER than '..Said'. Prove '..Said' where nothing that the law and all that it calls make is longer than what came in: it says more and counts as full. Else prove '..UptoSaid'. A law counts once. -/
mutual
def uptoBulk {H : Type} : DataW H → Nat
  | .lit (.string bytes) => bytes.length + 1
  | .lit _ => 1
  | .nil => 1
  | .ptr d => uptoBulk d + 1
  | .slice elems spare => uptoBulkAll elems + uptoBulkAll spare + 1
  | .agg parts => uptoBulkAll parts + 1
  | .iface _ d => uptoBulk d + 1
  | .map entries => uptoBulkEntries entries + 1
  | .held _ => 1
def uptoBulkAll {H : Type} : List (DataW H) → Nat
  | [] => 0
  | d :: r => uptoBulk d + uptoBulkAll r
def uptoBulkEntries {H : Type} : List (Lit × DataW H) → Nat
  | [] => 0
  | x :: r => uptoBulkEntry x + uptoBulkEntries r
def uptoBulkEntry {H : Type} : Lit × DataW H → Nat
  | (.string bytes, d) => bytes.length + uptoBulk d + 1
  | (_, d) => uptoBulk d + 1
 end
def uptoSmall : (H : Type) → List (DataW H) → Bool := fun _ ds => decide (uptoBulkAll ds ≤ 1048576)
def OpenSpec.upto (s : _root_.Go.ChangeSpec) : _root_.Go.OpenSpec := { _root_.Go.OpenSpec.ofChange s with cond := some uptoSmall }

/-- 'rebuslaw06.TurnGrids', WHERE WHAT IT READS IS OF BULK AT MOST 1048576: true; the input reads as it did. -/
def turnGridsUptoRow : OpenClaim := { program := "ytgpnnnhhidbajaadoor", sum := "27a8704ca54d0b9edbfd9186f4ca5d4a080d914578447b491c8707616367ea48", func := "rebus/rebuslaw06.TurnGrids", spec := "turnGrids", unfollowed := true, recurses := true, named := ["rebus/grid.ways"], apart := false, laid := [("rebus/grid.ways", laid_rebus_grid_ways)], narrowed := true }
def TurnGridsUptoSaid : Prop := turnGridsUptoRow.holds Tryd.pinned (OpenSpec.upto turnGridsSpec)

/-- 'rebuslaw06.TurnGroup', WHERE WHAT IT READS IS OF BULK AT MOST 1048576: true; the input reads as it did. -/
def turnGroupUptoRow : OpenClaim := { program := "ytgpnnnhhidbajaadoor", sum := "27a8704ca54d0b9edbfd9186f4ca5d4a080d914578447b491c8707616367ea48", func := "rebus/rebuslaw06.TurnGroup", spec := "turnGroup", named := ["rebus/grid.ways"], apart := false, laid := [("rebus/grid.ways", laid_rebus_grid_ways)], narrowed := true }
def TurnGroupUptoSaid : Prop := turnGroupUptoRow.holds Tryd.pinned (OpenSpec.upto turnGroupSpec)

/-- 'rebuslaw06.TurnSymmetries', WHERE WHAT IT READS IS OF BULK AT MOST 1048576: true; the input reads as it did. -/
def turnSymmetriesUptoRow : OpenClaim := { program := "ytgpnnnhhidbajaadoor", sum := "27a8704ca54d0b9edbfd9186f4ca5d4a080d914578447b491c8707616367ea48", func := "rebus/rebuslaw06.TurnSymmetries", spec := "turnSymmetries", unfollowed := true, recurses := true, named := ["rebus/grid.ways"], apart := false, laid := [("rebus/grid.ways", laid_rebus_grid_ways)], narrowed := true }
def TurnSymmetriesUptoSaid : Prop := turnSymmetriesUptoRow.holds Tryd.pinned (OpenSpec.upto turnSymmetriesSpec)

/-- 'rebuslaw06.TurnCanon', WHERE WHAT IT READS IS OF BULK AT MOST 1048576: true; the input reads as it did. -/
def turnCanonUptoRow : OpenClaim := { program := "ytgpnnnhhidbajaadoor", sum := "27a8704ca54d0b9edbfd9186f4ca5d4a080d914578447b491c8707616367ea48", func := "rebus/rebuslaw06.TurnCanon", spec := "turnCanon", unfollowed := true, recurses := true, named := ["rebus/grid.ways"], apart := false, laid := [("rebus/grid.ways", laid_rebus_grid_ways)], narrowed := true }
def TurnCanonUptoSaid : Prop := turnCanonUptoRow.holds Tryd.pinned (OpenSpec.upto turnCanonSpec)

end Rows
end Go.Proofs.YtgpnnnhhidbajaaDoor
