/-
  Two lists of numbers compared (the library's slices.Equal, the document's SameInts): true just where they are the same.
-/
import Derived.Test.YtcocbjipikeebaaDoorNewq
import Derived.Test.YtcocbjipikeebaaDoorGxa
namespace Go.Proofs.YtcocbjipikeebaaDoor.Utf
open Go Go.Lib Go.RowKit

end Go.Proofs.YtcocbjipikeebaaDoor.Utf
