/-
  The program's Places: the places of the text, rising, in a new list, for every text of up to 16777216 bytes.
-/
import Derived.Test.YtaijphanpolegaaProg
import Derived.Test.YtaijphanpolegaaCutm
import Derived.WalkKit
import Derived.Lib.Walk
import Derived.Lib.OthersKept
import Derived.WalkSmall
import Derived.Maps.AppendAt
import Derived.RangeFuncBox
import Derived.LoopTactic
namespace Go.Proofs.Ytaijphanpolegaa.Utf
open Go Go.Lib Go.RowKit

theorem infoInt : (Try.prog.info? 3).map (fun i => (i.zero, i.size, i.bytes)) = some (some (.int .i64 0), 1, 8) := by kernel_rfl
/-- A list of places, as cells. -/
def plc (l : List (Nat × Nat)) : List Value := l.map fun x => Value.int .i64 (x.1 : Int)
theorem plc_snoc (l : List (Nat × Nat)) (x : Nat × Nat) : plc (l ++ [x]) = plc l ++ [Value.int .i64 (x.1 : Int)] := by simp [plc]
theorem plc_length (l : List (Nat × Nat)) : (plc l).length = l.length := by simp [plc]

end Go.Proofs.Ytaijphanpolegaa.Utf
