/-
  Numbers of 64 bits as cells.
-/
import Derived.Test.YtaijphanpolegaaProg
namespace Go.Proofs.Ytaijphanpolegaa.Utf
open Go

/-- Numbers of 64 bits as cells. -/
def ints (zs : List Int) : List Value := zs.map (Value.int .i64)
end Go.Proofs.Ytaijphanpolegaa.Utf
