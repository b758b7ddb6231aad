/-
  Nothing: what this text holds at other cuts is not called at this one.
-/
import Derived.Ground.NamesProg
import Derived.Ground.SlsfProg
import Derived.Shelf.SlSortCmp.NoneTotal
import Derived.Test.YtcocbjipikeebaaDoorProg
namespace Go.Proofs
end Go.Proofs
