/-
  Nothing: what this text holds at other cuts is not called at this one.
-/
import Derived.Shelf.Strings.Prefix
import Derived.Test.YtcocbjipikeebaaDoorProg
namespace Go.Proofs
end Go.Proofs
