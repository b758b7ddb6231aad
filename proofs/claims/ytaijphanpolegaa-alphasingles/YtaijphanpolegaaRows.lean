/-
  No cell of these rows narrows 'for every input' (looked for: loops, veiled, ifaces, maps, wideKeys, modest, calm, conditions, laid).
  DERIVED. THE GIVEN ROWS OF THIS SEAT. 6 by the template 'for every input the law returns true; each argument reads behind the call as it read before'; 0 by the template 'total and deterministic' (their statements: YtaijphanpolegaaTotals.lean).
  GIVEN WITH THE SEED: the statements are not yours to turn. If you find one false, say at which input.
  Laid BY PROGRAM, IN A SANDBOX (cutbox-rows.mjs): the forced cells as the released guide's own fill.sh prints them over the translation b52ad659cf0ff4ec… (all of the seat's roots in one cut). By AI agents, Wed Nov 11 2026. No macro, syntax, notation, axiom, sorry.
-/
import Derived.Test.YtaijphanpolegaaChecked
import GoSem.Claim
import GoSem.ClaimJoined
import GoSem.ClaimMapViews
import Derived.JoinedTies
import Derived.KernelRfl
namespace Go.Proofs.Ytaijphanpolegaa
/- THE CELL 'sum', in the pinned program and in every row, IS THE sha256 OF THE DUMP (.gsa) THAT YtaijphanpolegaaProg.lean LOADS. Nothing in Lean hashes anything: it is a label: what it is worth is what the hold of that sum in a sandbox is worth. -/
noncomputable def Try.pinned : Pinned := { name := "ytaijphanpolegaa", sum := "b52ad659cf0ff4ec72c7a335d74065ff1448123230c2d61c00d6a4f2c74959ac", checked := Try.checked }
namespace Rows
def none {H : Type} : Left H := { results := [], args := [] }

/-- 'rebuslaw03.AlphaNews': WHATEVER THE INPUT: true; the input reads as it did. -/
def alphaNewsSpec : ChangeSpec := { name := "alphaNews", fn := fun _ => fun
  | [d] => { results := [.lit (.bool true)], args := [d] }
  | _ => none }
def alphaNewsRow : OpenClaim := { program := "ytaijphanpolegaa", sum := "b52ad659cf0ff4ec72c7a335d74065ff1448123230c2d61c00d6a4f2c74959ac", func := "rebus/rebuslaw03.AlphaNews", spec := "alphaNews", unfollowed := true, recurses := true, apart := false }
def AlphaNewsSaid : Prop := alphaNewsRow.holds Try.pinned (OpenSpec.ofChange alphaNewsSpec)

/-- ITS FALSE NEIGHBOUR: 'it returns false'. Refute it at one input. -/
def alphaNewsWrong : ChangeSpec := { name := "alphaNews", fn := fun _ => fun
  | [d] => { results := [.lit (.bool false)], args := [d] }
  | _ => none }
def AlphaNewsWrongFalsely : Prop := alphaNewsRow.holds Try.pinned (OpenSpec.ofChange alphaNewsWrong)

/-- 'rebuslaw03.AlphaReads': WHATEVER THE INPUT: true; the input reads as it did. -/
def alphaReadsSpec : ChangeSpec := { name := "alphaReads", fn := fun _ => fun
  | [d1, d2] => { results := [.lit (.bool true)], args := [d1, d2] }
  | _ => none }
def alphaReadsRow : OpenClaim := { program := "ytaijphanpolegaa", sum := "b52ad659cf0ff4ec72c7a335d74065ff1448123230c2d61c00d6a4f2c74959ac", func := "rebus/rebuslaw03.AlphaReads", spec := "alphaReads", unfollowed := true, recurses := true, apart := false }
def AlphaReadsSaid : Prop := alphaReadsRow.holds Try.pinned (OpenSpec.ofChange alphaReadsSpec)

/-- ITS FALSE NEIGHBOUR: 'it returns false'. Refute it at one input. -/
def alphaReadsWrong : ChangeSpec := { name := "alphaReads", fn := fun _ => fun
  | [d1, d2] => { results := [.lit (.bool false)], args := [d1, d2] }
  | _ => none }
def AlphaReadsWrongFalsely : Prop := alphaReadsRow.holds Try.pinned (OpenSpec.ofChange alphaReadsWrong)

/-- 'rebuslaw03.AlphaWrites': WHATEVER THE INPUT: true; the input reads as it did. -/
def alphaWritesSpec : ChangeSpec := { name := "alphaWrites", fn := fun _ => fun
  | [d1, d2] => { results := [.lit (.bool true)], args := [d1, d2] }
  | _ => none }
def alphaWritesRow : OpenClaim := { program := "ytaijphanpolegaa", sum := "b52ad659cf0ff4ec72c7a335d74065ff1448123230c2d61c00d6a4f2c74959ac", func := "rebus/rebuslaw03.AlphaWrites", spec := "alphaWrites", inPlace := ["internal/abi.NoEscape"], unfollowed := true, recurses := true, apart := false }
def AlphaWritesSaid : Prop := alphaWritesRow.holds Try.pinned (OpenSpec.ofChange alphaWritesSpec)

/-- ITS FALSE NEIGHBOUR: 'it returns false'. Refute it at one input. -/
def alphaWritesWrong : ChangeSpec := { name := "alphaWrites", fn := fun _ => fun
  | [d1, d2] => { results := [.lit (.bool false)], args := [d1, d2] }
  | _ => none }
def AlphaWritesWrongFalsely : Prop := alphaWritesRow.holds Try.pinned (OpenSpec.ofChange alphaWritesWrong)

/-- 'rebuslaw03.AlphaBack': WHATEVER THE INPUT: true; the input reads as it did. -/
def alphaBackSpec : ChangeSpec := { name := "alphaBack", fn := fun _ => fun
  | [d1, d2] => { results := [.lit (.bool true)], args := [d1, d2] }
  | _ => none }
def alphaBackRow : OpenClaim := { program := "ytaijphanpolegaa", sum := "b52ad659cf0ff4ec72c7a335d74065ff1448123230c2d61c00d6a4f2c74959ac", func := "rebus/rebuslaw03.AlphaBack", spec := "alphaBack", inPlace := ["internal/abi.NoEscape"], unfollowed := true, recurses := true, apart := false }
def AlphaBackSaid : Prop := alphaBackRow.holds Try.pinned (OpenSpec.ofChange alphaBackSpec)

/-- ITS FALSE NEIGHBOUR: 'it returns false'. Refute it at one input. -/
def alphaBackWrong : ChangeSpec := { name := "alphaBack", fn := fun _ => fun
  | [d1, d2] => { results := [.lit (.bool false)], args := [d1, d2] }
  | _ => none }
def AlphaBackWrongFalsely : Prop := alphaBackRow.holds Try.pinned (OpenSpec.ofChange alphaBackWrong)

/-- 'rebuslaw03.AlphaAll': WHATEVER THE INPUT: true; the input reads as it did. -/
def alphaAllSpec : ChangeSpec := { name := "alphaAll", fn := fun _ => fun
  | [d1, d2] => { results := [.lit (.bool true)], args := [d1, d2] }
  | _ => none }
def alphaAllRow : OpenClaim := { program := "ytaijphanpolegaa", sum := "b52ad659cf0ff4ec72c7a335d74065ff1448123230c2d61c00d6a4f2c74959ac", func := "rebus/rebuslaw03.AlphaAll", spec := "alphaAll", inPlace := ["internal/abi.NoEscape"], unfollowed := true, recurses := true, apart := false }
def AlphaAllSaid : Prop := alphaAllRow.holds Try.pinned (OpenSpec.ofChange alphaAllSpec)

/-- ITS FALSE NEIGHBOUR: 'it returns false'. Refute it at one input. -/
def alphaAllWrong : ChangeSpec := { name := "alphaAll", fn := fun _ => fun
  | [d1, d2] => { results := [.lit (.bool false)], args := [d1, d2] }
  | _ => none }
def AlphaAllWrongFalsely : Prop := alphaAllRow.holds Try.pinned (OpenSpec.ofChange alphaAllWrong)

/-- 'rebuslaw03.AlphaSingles': WHATEVER THE INPUT: true; the input reads as it did. -/
def alphaSinglesSpec : ChangeSpec := { name := "alphaSingles", fn := fun _ => fun
  | [d1, d2] => { results := [.lit (.bool true)], args := [d1, d2] }
  | _ => none }
def alphaSinglesRow : OpenClaim := { program := "ytaijphanpolegaa", sum := "b52ad659cf0ff4ec72c7a335d74065ff1448123230c2d61c00d6a4f2c74959ac", func := "rebus/rebuslaw03.AlphaSingles", spec := "alphaSingles", inPlace := ["internal/abi.NoEscape"], unfollowed := true, recurses := true, apart := false }
def AlphaSinglesSaid : Prop := alphaSinglesRow.holds Try.pinned (OpenSpec.ofChange alphaSinglesSpec)

/-- ITS FALSE NEIGHBOUR: 'it returns false'. Refute it at one input. -/
def alphaSinglesWrong : ChangeSpec := { name := "alphaSingles", fn := fun _ => fun
  | [d1, d2] => { results := [.lit (.bool false)], args := [d1, d2] }
  | _ => none }
def AlphaSinglesWrongFalsely : Prop := alphaSinglesRow.holds Try.pinned (OpenSpec.ofChange alphaSinglesWrong)

/- THE SECOND FORM. 'bulk': how many values and letters a reading holds, each counted each time it is reached (what is shared counts as often as it is met; a slice's spare places count too). A statement '..UptoSaid' is the law's where the arguments, and the package variables that the reading takes, are together of bulk at most 1048576: NARROWER than '..Said'. Prove '..Said' where nothing that the law and all that it calls make is longer than what came in: it says more and counts as full. Else prove '..UptoSaid'. A law counts once. -/
mutual
def uptoBulk {H : Type} : DataW H → Nat
  | .lit (.string bytes) => bytes.length + 1
  | .lit _ => 1
  | .nil => 1
  | .ptr d => uptoBulk d + 1
  | .slice elems spare => uptoBulkAll elems + uptoBulkAll spare + 1
  | .agg parts => uptoBulkAll parts + 1
  | .iface _ d => uptoBulk d + 1
  | .map entries => uptoBulkEntries entries + 1
  | .held _ => 1
def uptoBulkAll {H : Type} : List (DataW H) → Nat
  | [] => 0
  | d :: r => uptoBulk d + uptoBulkAll r
def uptoBulkEntries {H : Type} : List (Lit × DataW H) → Nat
  | [] => 0
  | x :: r => uptoBulkEntry x + uptoBulkEntries r
def uptoBulkEntry {H : Type} : Lit × DataW H → Nat
  | (.string bytes, d) => bytes.length + uptoBulk d + 1
  | (_, d) => uptoBulk d + 1
 end
def uptoSmall : (H : Type) → List (DataW H) → Bool := fun _ ds => decide (uptoBulkAll ds ≤ 1048576)
def OpenSpec.upto (s : _root_.Go.ChangeSpec) : _root_.Go.OpenSpec := { _root_.Go.OpenSpec.ofChange s with cond := some uptoSmall }

/-- 'rebuslaw03.AlphaNews', WHERE WHAT IT READS IS OF BULK AT MOST 1048576: true; the input reads as it did. -/
def alphaNewsUptoRow : OpenClaim := { program := "ytaijphanpolegaa", sum := "b52ad659cf0ff4ec72c7a335d74065ff1448123230c2d61c00d6a4f2c74959ac", func := "rebus/rebuslaw03.AlphaNews", spec := "alphaNews", unfollowed := true, recurses := true, apart := false, narrowed := true }
def AlphaNewsUptoSaid : Prop := alphaNewsUptoRow.holds Try.pinned (OpenSpec.upto alphaNewsSpec)

/-- 'rebuslaw03.AlphaReads', WHERE WHAT IT READS IS OF BULK AT MOST 1048576: true; the input reads as it did. -/
def alphaReadsUptoRow : OpenClaim := { program := "ytaijphanpolegaa", sum := "b52ad659cf0ff4ec72c7a335d74065ff1448123230c2d61c00d6a4f2c74959ac", func := "rebus/rebuslaw03.AlphaReads", spec := "alphaReads", unfollowed := true, recurses := true, apart := false, narrowed := true }
def AlphaReadsUptoSaid : Prop := alphaReadsUptoRow.holds Try.pinned (OpenSpec.upto alphaReadsSpec)

/-- 'rebuslaw03.AlphaWrites', WHERE WHAT IT READS IS OF BULK AT MOST 1048576: true; the input reads as it did. -/
def alphaWritesUptoRow : OpenClaim := { program := "ytaijphanpolegaa", sum := "b52ad659cf0ff4ec72c7a335d74065ff1448123230c2d61c00d6a4f2c74959ac", func := "rebus/rebuslaw03.AlphaWrites", spec := "alphaWrites", inPlace := ["internal/abi.NoEscape"], unfollowed := true, recurses := true, apart := false, narrowed := true }
def AlphaWritesUptoSaid : Prop := alphaWritesUptoRow.holds Try.pinned (OpenSpec.upto alphaWritesSpec)

/-- 'rebuslaw03.AlphaBack', WHERE WHAT IT READS IS OF BULK AT MOST 1048576: true; the input reads as it did. -/
def alphaBackUptoRow : OpenClaim := { program := "ytaijphanpolegaa", sum := "b52ad659cf0ff4ec72c7a335d74065ff1448123230c2d61c00d6a4f2c74959ac", func := "rebus/rebuslaw03.AlphaBack", spec := "alphaBack", inPlace := ["internal/abi.NoEscape"], unfollowed := true, recurses := true, apart := false, narrowed := true }
def AlphaBackUptoSaid : Prop := alphaBackUptoRow.holds Try.pinned (OpenSpec.upto alphaBackSpec)

/-- 'rebuslaw03.AlphaAll', WHERE WHAT IT READS IS OF BULK AT MOST 1048576: true; the input reads as it did. -/
def alphaAllUptoRow : OpenClaim := { program := "ytaijphanpolegaa", sum := "b52ad659cf0ff4ec72c7a335d74065ff1448123230c2d61c00d6a4f2c74959ac", func := "rebus/rebuslaw03.AlphaAll", spec := "alphaAll", inPlace := ["internal/abi.NoEscape"], unfollowed := true, recurses := true, apart := false, narrowed := true }
def AlphaAllUptoSaid : Prop := alphaAllUptoRow.holds Try.pinned (OpenSpec.upto alphaAllSpec)

/-- 'rebuslaw03.AlphaSingles', WHERE WHAT IT READS IS OF BULK AT MOST 1048576: true; the input reads as it did. -/
def alphaSinglesUptoRow : OpenClaim := { program := "ytaijphanpolegaa", sum := "b52ad659cf0ff4ec72c7a335d74065ff1448123230c2d61c00d6a4f2c74959ac", func := "rebus/rebuslaw03.AlphaSingles", spec := "alphaSingles", inPlace := ["internal/abi.NoEscape"], unfollowed := true, recurses := true, apart := false, narrowed := true }
def AlphaSinglesUptoSaid : Prop := alphaSinglesUptoRow.holds Try.pinned (OpenSpec.upto alphaSinglesSpec)

end Rows
end Go.Proofs.Ytaijphanpolegaa
