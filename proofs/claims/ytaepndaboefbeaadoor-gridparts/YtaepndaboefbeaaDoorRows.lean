/-
  NARROWER THAN 'FOR EVERY INPUT', by the rows' own cells (each row's printed sentence says how): GridChecks: laid · GridSteps: laid · GridParts: laid · GridBack: laid · GridReach: laid · GridBlanks: laid.
  DERIVED. THE GIVEN ROWS OF THIS SEAT. 6 by the template 'for every input the law returns true; each argument reads behind the call as it read before'; 0 by the template 'total and deterministic' (their statements: YtaepndaboefbeaaDoorTotals.lean).
  GIVEN WITH THE SEED: the statements are not yours to turn. If you find one false, say at which input.
  Laid BY PROGRAM, IN A SANDBOX (cutbox-rows.mjs): the forced cells as the released guide's own fill.sh prints them over the translation 012354a697ea7600… (all of the seat's roots in one cut). By AI agents, Wed Nov 11 2026. No macro, syntax, notation, axiom, sorry.
-/
import Derived.Test.YtaepndaboefbeaaDoorChecked
import GoSem.Claim
import GoSem.ClaimJoined
import GoSem.ClaimMapViews
import Derived.JoinedTies
import Derived.KernelRfl
namespace Go.Proofs.YtaepndaboefbeaaDoor
/- THE CELL 'sum', in the pinned program and in every row, IS THE sha256 OF THE DUMP (.gsa) THAT YtaepndaboefbeaaDoorProg.lean LOADS. Nothing in Lean hashes anything: it is a label: what it is worth is what the hold of that sum in a sandbox is worth. -/
noncomputable def Tryd.pinned : Pinned := { name := "ytaepndaboefbeaadoor", sum := "012354a697ea7600aaa4861df7522667b2b9c6a3968143bc1a78e727908c0228", checked := Tryd.checked }
namespace Rows
def none {H : Type} : Left H := { results := [], args := [] }

/- WHAT THE LISTED PACKAGE-LEVEL VARIABLES READ AS WHEN THE CALL BEGINS. Each datum BY PROGRAM (the guide's laid-datum.mjs) off the statement by which the dump's own 'gosem.cut.vars' lays the variable. In a bare row this is a premise. The card (YtaepndaboefbeaaDoorCards.lean) ties it to the program's text. -/
def laid_rebus_grid_ways {H : Type} : DataW H := .agg [.agg [.lit (.int .i64 0), .lit (.int .i64 1)], .agg [.lit (.int .i64 1), .lit (.int .i64 0)], .agg [.lit (.int .i64 0), .lit (.int .i64 (-1))], .agg [.lit (.int .i64 (-1)), .lit (.int .i64 0)]]

/-- 'rebuslaw05.GridChecks': WHATEVER THE INPUT: true; the input reads as it did. -/
def gridChecksSpec : ChangeSpec := { name := "gridChecks", fn := fun _ => fun
  | [d1, d2, d3] => { results := [.lit (.bool true)], args := [d1, d2, d3] }
  | _ => none }
def gridChecksRow : OpenClaim := { program := "ytaepndaboefbeaadoor", sum := "012354a697ea7600aaa4861df7522667b2b9c6a3968143bc1a78e727908c0228", func := "rebus/rebuslaw05.GridChecks", spec := "gridChecks", named := ["rebus/grid.ways"], apart := false, laid := [("rebus/grid.ways", laid_rebus_grid_ways)] }
def GridChecksSaid : Prop := gridChecksRow.holds Tryd.pinned (OpenSpec.ofChange gridChecksSpec)

/-- ITS FALSE NEIGHBOUR: 'it returns false'. Refute it at one input. -/
def gridChecksWrong : ChangeSpec := { name := "gridChecks", fn := fun _ => fun
  | [d1, d2, d3] => { results := [.lit (.bool false)], args := [d1, d2, d3] }
  | _ => none }
def GridChecksWrongFalsely : Prop := gridChecksRow.holds Tryd.pinned (OpenSpec.ofChange gridChecksWrong)

/-- 'rebuslaw05.GridSteps': WHATEVER THE INPUT: true; the input reads as it did. -/
def gridStepsSpec : ChangeSpec := { name := "gridSteps", fn := fun _ => fun
  | [d1, d2, d3] => { results := [.lit (.bool true)], args := [d1, d2, d3] }
  | _ => none }
def gridStepsRow : OpenClaim := { program := "ytaepndaboefbeaadoor", sum := "012354a697ea7600aaa4861df7522667b2b9c6a3968143bc1a78e727908c0228", func := "rebus/rebuslaw05.GridSteps", spec := "gridSteps", named := ["rebus/grid.ways"], apart := false, laid := [("rebus/grid.ways", laid_rebus_grid_ways)] }
def GridStepsSaid : Prop := gridStepsRow.holds Tryd.pinned (OpenSpec.ofChange gridStepsSpec)

/-- ITS FALSE NEIGHBOUR: 'it returns false'. Refute it at one input. -/
def gridStepsWrong : ChangeSpec := { name := "gridSteps", fn := fun _ => fun
  | [d1, d2, d3] => { results := [.lit (.bool false)], args := [d1, d2, d3] }
  | _ => none }
def GridStepsWrongFalsely : Prop := gridStepsRow.holds Tryd.pinned (OpenSpec.ofChange gridStepsWrong)

/-- 'rebuslaw05.GridParts': WHATEVER THE INPUT: true; the input reads as it did. -/
def gridPartsSpec : ChangeSpec := { name := "gridParts", fn := fun _ => fun
  | [d] => { results := [.lit (.bool true)], args := [d] }
  | _ => none }
def gridPartsRow : OpenClaim := { program := "ytaepndaboefbeaadoor", sum := "012354a697ea7600aaa4861df7522667b2b9c6a3968143bc1a78e727908c0228", func := "rebus/rebuslaw05.GridParts", spec := "gridParts", named := ["rebus/grid.ways"], apart := false, laid := [("rebus/grid.ways", laid_rebus_grid_ways)] }
def GridPartsSaid : Prop := gridPartsRow.holds Tryd.pinned (OpenSpec.ofChange gridPartsSpec)

/-- ITS FALSE NEIGHBOUR: 'it returns false'. Refute it at one input. -/
def gridPartsWrong : ChangeSpec := { name := "gridParts", fn := fun _ => fun
  | [d] => { results := [.lit (.bool false)], args := [d] }
  | _ => none }
def GridPartsWrongFalsely : Prop := gridPartsRow.holds Tryd.pinned (OpenSpec.ofChange gridPartsWrong)

/-- 'rebuslaw05.GridBack': WHATEVER THE INPUT: true; the input reads as it did. -/
def gridBackSpec : ChangeSpec := { name := "gridBack", fn := fun _ => fun
  | [d1, d2] => { results := [.lit (.bool true)], args := [d1, d2] }
  | _ => none }
def gridBackRow : OpenClaim := { program := "ytaepndaboefbeaadoor", sum := "012354a697ea7600aaa4861df7522667b2b9c6a3968143bc1a78e727908c0228", func := "rebus/rebuslaw05.GridBack", spec := "gridBack", named := ["rebus/grid.ways"], apart := false, laid := [("rebus/grid.ways", laid_rebus_grid_ways)] }
def GridBackSaid : Prop := gridBackRow.holds Tryd.pinned (OpenSpec.ofChange gridBackSpec)

/-- ITS FALSE NEIGHBOUR: 'it returns false'. Refute it at one input. -/
def gridBackWrong : ChangeSpec := { name := "gridBack", fn := fun _ => fun
  | [d1, d2] => { results := [.lit (.bool false)], args := [d1, d2] }
  | _ => none }
def GridBackWrongFalsely : Prop := gridBackRow.holds Tryd.pinned (OpenSpec.ofChange gridBackWrong)

/-- 'rebuslaw05.GridReach': WHATEVER THE INPUT: true; the input reads as it did. -/
def gridReachSpec : ChangeSpec := { name := "gridReach", fn := fun _ => fun
  | [d1, d2] => { results := [.lit (.bool true)], args := [d1, d2] }
  | _ => none }
def gridReachRow : OpenClaim := { program := "ytaepndaboefbeaadoor", sum := "012354a697ea7600aaa4861df7522667b2b9c6a3968143bc1a78e727908c0228", func := "rebus/rebuslaw05.GridReach", spec := "gridReach", named := ["rebus/grid.ways"], apart := false, laid := [("rebus/grid.ways", laid_rebus_grid_ways)] }
def GridReachSaid : Prop := gridReachRow.holds Tryd.pinned (OpenSpec.ofChange gridReachSpec)

/-- ITS FALSE NEIGHBOUR: 'it returns false'. Refute it at one input. -/
def gridReachWrong : ChangeSpec := { name := "gridReach", fn := fun _ => fun
  | [d1, d2] => { results := [.lit (.bool false)], args := [d1, d2] }
  | _ => none }
def GridReachWrongFalsely : Prop := gridReachRow.holds Tryd.pinned (OpenSpec.ofChange gridReachWrong)

/-- 'rebuslaw05.GridBlanks': WHATEVER THE INPUT: true; the input reads as it did. -/
def gridBlanksSpec : ChangeSpec := { name := "gridBlanks", fn := fun _ => fun
  | [d1, d2] => { results := [.lit (.bool true)], args := [d1, d2] }
  | _ => none }
def gridBlanksRow : OpenClaim := { program := "ytaepndaboefbeaadoor", sum := "012354a697ea7600aaa4861df7522667b2b9c6a3968143bc1a78e727908c0228", func := "rebus/rebuslaw05.GridBlanks", spec := "gridBlanks", named := ["rebus/grid.ways"], apart := false, laid := [("rebus/grid.ways", laid_rebus_grid_ways)] }
def GridBlanksSaid : Prop := gridBlanksRow.holds Tryd.pinned (OpenSpec.ofChange gridBlanksSpec)

/-- ITS FALSE NEIGHBOUR: 'it returns false'. Refute it at one input. -/
def gridBlanksWrong : ChangeSpec := { name := "gridBlanks", fn := fun _ => fun
  | [d1, d2] => { results := [.lit (.bool false)], args := [d1, d2] }
  | _ => none }
def GridBlanksWrongFalsely : Prop := gridBlanksRow.holds Tryd.pinned (OpenSpec.ofChange gridBlanksWrong)

/- THE SECOND FORM. 'bulk': how many values and letters a reading holds, each counted each time it is reached (what is shared counts as often as it is met; a slice's spare places count too). A statement '..UptoSaid' is the law's where the arguments, and the package variables that the reading takes, are together of bulk at most 1048576: NARROWER than '..Said'. Prove '..Said' where nothing that the law and all that it calls make is longer than what came in: it says more and counts as full. Else prove '..UptoSaid'. A law counts once. -/
mutual
def uptoBulk {H : Type} : DataW H → Nat
  | .lit (.string bytes) => bytes.length + 1
  | .lit _ => 1
  | .nil => 1
  | .ptr d => uptoBulk d + 1
  | .slice elems spare => uptoBulkAll elems + uptoBulkAll spare + 1
  | .agg parts => uptoBulkAll parts + 1
  | .iface _ d => uptoBulk d + 1
  | .map entries => uptoBulkEntries entries + 1
  | .held _ => 1
def uptoBulkAll {H : Type} : List (DataW H) → Nat
  | [] => 0
  | d :: r => uptoBulk d + uptoBulkAll r
def uptoBulkEntries {H : Type} : List (Lit × DataW H) → Nat
  | [] => 0
  | x :: r => uptoBulkEntry x + uptoBulkEntries r
def uptoBulkEntry {H : Type} : Lit × DataW H → Nat
  | (.string bytes, d) => bytes.length + uptoBulk d + 1
  | (_, d) => uptoBulk d + 1
 end
def uptoSmall : (H : Type) → List (DataW H) → Bool := fun _ ds => decide (uptoBulkAll ds ≤ 1048576)
def OpenSpec.upto (s : _root_.Go.ChangeSpec) : _root_.Go.OpenSpec := { _root_.Go.OpenSpec.ofChange s with cond := some uptoSmall }

/-- 'rebuslaw05.GridChecks', WHERE WHAT IT READS IS OF BULK AT MOST 1048576: true; the input reads as it did. -/
def gridChecksUptoRow : OpenClaim := { program := "ytaepndaboefbeaadoor", sum := "012354a697ea7600aaa4861df7522667b2b9c6a3968143bc1a78e727908c0228", func := "rebus/rebuslaw05.GridChecks", spec := "gridChecks", named := ["rebus/grid.ways"], apart := false, laid := [("rebus/grid.ways", laid_rebus_grid_ways)], narrowed := true }
def GridChecksUptoSaid : Prop := gridChecksUptoRow.holds Tryd.pinned (OpenSpec.upto gridChecksSpec)

/-- 'rebuslaw05.GridSteps', WHERE WHAT IT READS IS OF BULK AT MOST 1048576: true; the input reads as it did. -/
def gridStepsUptoRow : OpenClaim := { program := "ytaepndaboefbeaadoor", sum := "012354a697ea7600aaa4861df7522667b2b9c6a3968143bc1a78e727908c0228", func := "rebus/rebuslaw05.GridSteps", spec := "gridSteps", named := ["rebus/grid.ways"], apart := false, laid := [("rebus/grid.ways", laid_rebus_grid_ways)], narrowed := true }
def GridStepsUptoSaid : Prop := gridStepsUptoRow.holds Tryd.pinned (OpenSpec.upto gridStepsSpec)

/-- 'rebuslaw05.GridParts', WHERE WHAT IT READS IS OF BULK AT MOST 1048576: true; the input reads as it did. -/
def gridPartsUptoRow : OpenClaim := { program := "ytaepndaboefbeaadoor", sum := "012354a697ea7600aaa4861df7522667b2b9c6a3968143bc1a78e727908c0228", func := "rebus/rebuslaw05.GridParts", spec := "gridParts", named := ["rebus/grid.ways"], apart := false, laid := [("rebus/grid.ways", laid_rebus_grid_ways)], narrowed := true }
def GridPartsUptoSaid : Prop := gridPartsUptoRow.holds Tryd.pinned (OpenSpec.upto gridPartsSpec)

/-- 'rebuslaw05.GridBack', WHERE WHAT IT READS IS OF BULK AT MOST 1048576: true; the input reads as it did. -/
def gridBackUptoRow : OpenClaim := { program := "ytaepndaboefbeaadoor", sum := "012354a697ea7600aaa4861df7522667b2b9c6a3968143bc1a78e727908c0228", func := "rebus/rebuslaw05.GridBack", spec := "gridBack", named := ["rebus/grid.ways"], apart := false, laid := [("rebus/grid.ways", laid_rebus_grid_ways)], narrowed := true }
def GridBackUptoSaid : Prop := gridBackUptoRow.holds Tryd.pinned (OpenSpec.upto gridBackSpec)

/-- 'rebuslaw05.GridReach', WHERE WHAT IT READS IS OF BULK AT MOST 1048576: true; the input reads as it did. -/
def gridReachUptoRow : OpenClaim := { program := "ytaepndaboefbeaadoor", sum := "012354a697ea7600aaa4861df7522667b2b9c6a3968143bc1a78e727908c0228", func := "rebus/rebuslaw05.GridReach", spec := "gridReach", named := ["rebus/grid.ways"], apart := false, laid := [("rebus/grid.ways", laid_rebus_grid_ways)], narrowed := true }
def GridReachUptoSaid : Prop := gridReachUptoRow.holds Tryd.pinned (OpenSpec.upto gridReachSpec)

/-- 'rebuslaw05.GridBlanks', WHERE WHAT IT READS IS OF BULK AT MOST 1048576: true; the input reads as it did. -/
def gridBlanksUptoRow : OpenClaim := { program := "ytaepndaboefbeaadoor", sum := "012354a697ea7600aaa4861df7522667b2b9c6a3968143bc1a78e727908c0228", func := "rebus/rebuslaw05.GridBlanks", spec := "gridBlanks", named := ["rebus/grid.ways"], apart := false, laid := [("rebus/grid.ways", laid_rebus_grid_ways)], narrowed := true }
def GridBlanksUptoSaid : Prop := gridBlanksUptoRow.holds Tryd.pinned (OpenSpec.upto gridBlanksSpec)

end Rows
end Go.Proofs.YtaepndaboefbeaaDoor
